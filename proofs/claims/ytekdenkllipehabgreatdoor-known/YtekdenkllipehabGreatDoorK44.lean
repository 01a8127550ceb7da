import Derived.Test.YtekdenkllipehabGreatDoorK43
set_option maxRecDepth 100000
set_option maxHeartbeats 8000000
namespace Go.Proofs.YtekdenkllipehabGreatDoor
open Go.RowKit
theorem lastRec_at {b:List Rec} {m:Nat} (h:b.length=m+1):b[m]?=some (S.lastRec b):=by
 unfold S.lastRec
 rw [List.getLast?_eq_getElem?,h]
 simp only [Nat.add_sub_cancel]
 rw [List.getElem?_eq_getElem (by omega)]
 rfl
theorem WriAt.sets {w w':World} {tg:Tags} {ow B d:Nat} {ol:List Rec} {ixs:List ByteArray} {nw:List (ByteArray × Int)} (h:WriAt w tg ow B d ol ixs nw) (hc:∀ j,w'.cell? ⟨B,j,none⟩=w.cell? ⟨B,j,none⟩∧w'.frozen? ⟨B,j,none⟩=false) (v u:Value) :
  (∃ x,(w'.setCell ⟨B,3,none⟩ v).cell? ⟨B,1,none⟩=some x)∧(w'.setCell ⟨B,3,none⟩ v).frozen? ⟨B,1,none⟩=false∧(∃ x,((w'.setCell ⟨B,3,none⟩ v).setCell ⟨B,1,none⟩ u).cell? ⟨B,2,none⟩=some x)∧((w'.setCell ⟨B,3,none⟩ v).setCell ⟨B,1,none⟩ u).frozen? ⟨B,2,none⟩=false:=by
 have hne:∀ i j,i≠j→(⟨B,i,none⟩:Addr)≠⟨B,j,none⟩:=fun i j hij e=>by injection e with _ e2;exact hij e2
 obtain ⟨ao,cap,a1,_,_⟩:=h.c1
 refine ⟨⟨.slice ao ol.length cap,?_⟩,?_,⟨.int .i64 (openSize ol:Nat),?_⟩,?_⟩
 ·rw [World.cell?_setCell_other _ _ _ _ (hne _ _ (by omega))]
  exact (hc 1).1.trans a1
 ·rw [World.frozen?_setCell];exact (hc 1).2
 ·rw [World.cell?_setCell_other _ _ _ _ (hne _ _ (by omega)),World.cell?_setCell_other _ _ _ _ (hne _ _ (by omega))]
  exact (hc 2).1.trans h.c2
 ·rw [World.frozen?_setCell,World.frozen?_setCell];exact (hc 2).2
theorem endBlock_some {w:World} {tg:Tags} {ow od B d:Nat} {ol:List Rec} {ixs:List ByteArray} {nw:List (ByteArray × Int)} {D:M.Dsk} {ids ps:List Nat} (h:WriAt w tg ow B d ol ixs nw) (hL:LDiskAt w tg od d D ids ps) (hF:D.Fine) (hne:ow≠od) (hT:Tab w) (hok:S.OkB ol) (hix:ixs.length≤4194304) :
  Calls Tryz.prog 88 #[.pointer (some ⟨B,0,none⟩)] w fun e w'=>e=.returned (.int .i64 ((D.append freshN (S.blkText ol)).2:Nat))∧∃ tg' ids' ps',LDiskAt w' tg' od d (D.append freshN (S.blkText ol)).1 ids' ps'∧WriAt w' tg' ow B d [] (ixs++S.entParts ol) nw∧Kept (fun x=>x=ow∨x=od) tg w tg' w':=by
 obtain ⟨i0,hi,hz0,hz1,hz2⟩:=info_parts infoS
 obtain ⟨ao,cap,a1,a2,a3⟩:=h.c1
 obtain ⟨bo,bcap,b1,b2,b3⟩:=h.c3
 obtain ⟨t,ht⟩:=hok.text
 obtain ⟨m,hm⟩:∃ m,ol.length=m+1:=⟨ol.length-1,by have:=List.length_pos_iff.2 hok.some_;omega⟩
 have hlast:=lastRec_at hm
 obtain ⟨b,off,hao,hbw,hR⟩:=(own_rcs a2).at (k:=m) (by omega)
 obtain ⟨r0,r1,r2,r3⟩:=hR m _ hlast
 have hft:=hok.fits _ (S.lastRec_mem hok.some_)
 simp only [Rec.fits,decide_eq_true_eq] at hft
 have BU:=build_any ol ao cap w (own_rcs a2) (by have:=hok.few;omega) hT
 rw [ht] at BU
 have hbt:S.blkText ol=M.sealed t:=by unfold S.blkText;rw [ht];rfl
 have hbl:=S.blkText_le hok
 have hbs:=S.inBlk_sum hok.fits
 have hfew:=hok.few
 obtain ⟨tx,htx⟩:∃ tx:ByteArray,tx=⟨(M.sealed t).toArray⟩:=⟨_,rfl⟩
 have htz:tx.size=(S.blkText ol).length:=by rw [htx,hbt];simp [ByteArray.size]
 have htd:tx.data.toList=S.blkText ol:=by rw [htx,hbt]
 unfold builtEnd at BU
 simp only at BU
 rw [←htx] at BU
 obtain ⟨e1,he1⟩:∃ e1:ByteArray,e1=⟨(M.enc 7 (S.blkText ol).length).toArray⟩:=⟨_,rfl⟩
 obtain ⟨e2,he2⟩:∃ e2:ByteArray,e2=⟨(M.enc 7 (S.lastRec ol).key.size).toArray⟩:=⟨_,rfl⟩
 obtain ⟨e3,he3⟩:∃ e3:ByteArray,e3=⟨(M.enc 7 (S.lastRec ol).stamp.toNat).toArray⟩:=⟨_,rfl⟩
 have hparts:S.entParts ol=[e1,e2,(S.lastRec ol).key,e3]:=by rw [he1,he2,he3];rfl
 have N1:Hid (∀ W:World,Calls Tryz.prog 125 #[.int .i64 (tx.size:Int)] W fun e w'=>e=.returned (.string e1)∧Q W w'):=fun W=>by
  have:=number_int (tx.size:Int) (by omega) W
  rw [Int.toNat_natCast,htz,←he1] at this
  rw [htz]
  exact this
 have N2:Hid (∀ W:World,Calls Tryz.prog 125 #[.int .i64 ((S.lastRec ol).key.size:Int)] W fun e w'=>e=.returned (.string e2)∧Q W w'):=fun W=>by
  have:=number_int ((S.lastRec ol).key.size:Int) (by omega) W
  rw [Int.toNat_natCast,←he2] at this
  exact this
 have N3:Hid (∀ W:World,Calls Tryz.prog 125 #[.int .i64 (S.lastRec ol).stamp] W fun e w'=>e=.returned (.string e3)∧Q W w'):=fun W=>by
  have:=number_int (S.lastRec ol).stamp (by omega) W
  rw [←he3] at this
  exact this
 have DA:Hid _:=fun (W:World) (tg1:Tags) (hW:LDiskAt W tg1 od d D ids ps)=>diskAppend tg1 od d D ids ps hF freshN tx W hW
 rw [htd] at DA
 rw [hparts]
 have HA:Hid _:=h
 have HL:Hid _:=hL
 have HB:Hid _:=fun (_:Unit)=>BU
 have c0:=h.c0
 obtain ⟨⟨key,stamp,kind,body⟩,hlr⟩:∃ r,S.lastRec ol=r:=⟨_,rfl⟩
 rw [hlr] at r0 r1 r2 r3 N2 N3 ⊢
 simp only at r0 r1 r2 r3 N2 N3 ⊢
 subst hao
 rw [hm] at a1 HB
 have hwm:IntKind.i64.wrap (m:Int)=(m:Int):=by rw [IntKind.wrap_i64];omega
 have hml:(m:Int)<(m:Int)+1:=by omega
 clear hparts he1 he2 he3 htz htd htx hbl hbs hbt BU hft hR hlast ht hlr hT hL h hok
 go_enter Tryz.func88,Tryz.ntmps88
 go_wp2_with fail
 refine (HB.out ()).mono ?_
 rintro e w1 ⟨rfl,q1⟩
 have ka1:=kept_cell a1 q1
 have k0:=kept_cell r0 q1
 have k1:=kept_cell r1 q1
 have k2:=kept_cell r2 q1
 have k3:=kept_cell r3 q1
 have HQ:Hid (∀ W,Q w1 W→W.cell? ⟨B,1,none⟩=some (.slice (some ⟨b,off,none⟩) (m+1) cap)∧W.cell? ⟨b,off+m*4,none⟩=some (.string key)∧W.cell? ⟨b,off+m*4+1,none⟩=some (.int .i64 stamp)∧W.cell? ⟨b,off+m*4+2,none⟩=some (.int .i64 kind)∧W.cell? ⟨b,off+m*4+3,none⟩=some (.string body)):=fun W q=>⟨kept_cell ka1 q,kept_cell k0 q,kept_cell k1 q,kept_cell k2 q,kept_cell k3 q⟩
 clear HB r0 r1 r2 r3 a1 ka1 k0 k1 k2 k3
 go_upto_region 6 with fail
 go_region_held3 (fun W=>W.cell? ⟨B,1,none⟩=some (.slice (some ⟨b,off,none⟩) (m+1) cap)∧W.cell? ⟨b,off+m*4,none⟩=some (.string key)∧W.cell? ⟨b,off+m*4+1,none⟩=some (.int .i64 stamp)∧W.cell? ⟨b,off+m*4+2,none⟩=some (.int .i64 kind)∧W.cell? ⟨b,off+m*4+3,none⟩=some (.string body))
  (first | exact HQ.out _ ((Q.refl _).drew) | exact HQ.out _ (((Q.refl _).drew).alloc _ _) | exact HQ.out _ (((Q.refl _).alloc _ _).drew)) (fail)
 obtain ⟨w2,hw2⟩:∃ w2,w2=(w1.alloc (.cells #[.string key,.int .i64 stamp,.int .i64 kind,.string body] 62)).drew:=⟨_,rfl⟩
 have hv:=(varN_new w1 [.string key,.int .i64 stamp,.int .i64 kind,.string body] 62).kept ((Q.refl _).drew)
 have q2:Q w w2:=by rw [hw2];exact (q1.alloc _ _).drew
 rw [←hw2] at hv
 have hvd:=hv.kept ((Q.refl _).drew)
 have l0:=hvd.cell 0 rfl
 have l1:=hvd.cell 1 rfl
 have qW:=q2.drew
 have kB:=kept_cell b1 qW
 have hsL:w.heap.size≤w1.heap.size:=q1.below.size
 clear HQ hvd hv q1
 go_upto_region 7 with fail
 rw [←hw2]
 clear hw2
 refine wp_region_held_drew (S:=fun w'=>w'.cell? ⟨w1.heap.size,0,none⟩=some (.string key)∧w'.cell? ⟨w1.heap.size,1,none⟩=some (.int .i64 stamp)) (by kernel_rfl) ⟨l0,l1⟩ (fun hHeld=>?_)
 refine tk3 (i:=0) (v:=?_) rfl (Or.inl ⟨by kernel_rfl,?_⟩) hHeld ?_
 rotate_left
 ·(intro w hSw;(try dsimp only at hSw);go_simp;try with_reducible rfl)
 try simp only [Act.put,nrm]
 refine tk3 (i:=1) (v:=?_) rfl (Or.inl ⟨by kernel_rfl,?_⟩) hHeld ?_
 rotate_left
 ·(intro w hSw;(try dsimp only at hSw);go_simp;try with_reducible rfl)
 try simp only [Act.put,nrm]
 refine tk3 (i:=2) (v:=?_) rfl (Or.inl ⟨by kernel_rfl,?_⟩) hHeld ?_
 rotate_left
 ·(intro w hSw;(try dsimp only at hSw);go_simp;try with_reducible rfl)
 try simp only [Act.put,nrm]
 refine tk3 (i:=3) (v:=?_) rfl (Or.inl ⟨by kernel_rfl,?_⟩) hHeld ?_
 rotate_left
 ·(intro w hSw;(try dsimp only at hSw);go_simp;try with_reducible rfl)
 try simp only [Act.put,nrm]
 refine tk3 (i:=5) (v:=?_) rfl (Or.inl ⟨by kernel_rfl,?_⟩) hHeld ?_
 rotate_left
 ·(intro w hSw;(try dsimp only at hSw);go_simp;try with_reducible rfl)
 try simp only [Act.put,nrm]
 refine tk3 (i:=6) (v:=?_) rfl (Or.inl ⟨by kernel_rfl,?_⟩) hHeld ?_
 rotate_left
 ·(intro w hSw;(try dsimp only at hSw);go_simp;try with_reducible rfl)
 try simp only [Act.put,nrm]
 refine tk3 (i:=8) (v:=?_) rfl (Or.inl ⟨by kernel_rfl,?_⟩) hHeld ?_
 rotate_left
 ·(intro w hSw;(try dsimp only at hSw);go_simp;try with_reducible rfl)
 try simp only [Act.put,nrm]
 refine tk3 (i:=9) (v:=?_) rfl (Or.inl ⟨by kernel_rfl,?_⟩) hHeld ?_
 rotate_left
 ·(intro w hSw;(try dsimp only at hSw);go_simp;try with_reducible rfl)
 try simp only [Act.put,nrm]
 refine tk3 (i:=10) (v:=?_) rfl (Or.inl ⟨by kernel_rfl,?_⟩) hHeld ?_
 rotate_left
 ·(intro w hSw;(try dsimp only at hSw);go_simp;try with_reducible rfl)
 try simp only [Act.put,nrm]
 refine tk3 (i:=12) (v:=?_) rfl (Or.inl ⟨by kernel_rfl,?_⟩) hHeld ?_
 rotate_left
 ·(intro w hSw;(try dsimp only at hSw);go_simp;try with_reducible rfl)
 try simp only [Act.put,nrm]
 refine tk3 (i:=13) (v:=?_) rfl (Or.inl ⟨by kernel_rfl,?_⟩) hHeld ?_
 rotate_left
 ·(intro w hSw;(try dsimp only at hSw);go_simp;try with_reducible rfl)
 try simp only [Act.put,nrm]
 refine tk3 (i:=14) (v:=?_) rfl (Or.inl ⟨by kernel_rfl,?_⟩) hHeld ?_
 rotate_left
 ·(intro w hSw;(try dsimp only at hSw);go_simp;try with_reducible rfl)
 try simp only [Act.put,nrm]
 refine tk3 (i:=15) (v:=?_) rfl (Or.inl ⟨by kernel_rfl,?_⟩) hHeld ?_
 rotate_left
 ·(intro w hSw;(try dsimp only at hSw);go_simp;try with_reducible rfl)
 try simp only [Act.put,nrm]
 refine wpAnyH_ready (rs:=[4,7]) (by kernel_rfl) (by simp) ?_
 refine AllReadyH.cons rfl (fun K hK=>?_) ?_
 ·go_simp
  refine hK.out _ _ hHeld (fun _=>?_)
  clear hK K
  try simp only [Act.put,nrm]
  refine wpAnyH_ready (rs:=[7]) (by kernel_rfl) (by simp) ?_
  refine AllReadyH.cons rfl (fun K hK=>?_) ?_
  ·go_simp
   refine (N1.out _).mono ?_
   rintro e v1 ⟨rfl,qv1⟩
   try go_wp2_with fail
   refine hK.out _ _ ⟨kept_cell hHeld.1 qv1,kept_cell hHeld.2 qv1⟩ (fun hHeld0=>?_)
   clear hK K hHeld
   have hHeld:=hHeld0
   clear hHeld0
   replace kB:=kept_cell kB qv1
   replace qW:=qW.trans qv1
   try simp only [Act.put,nrm]
   refine wpAnyH_ready (rs:=[11]) (by kernel_rfl) (by simp) ?_
   refine AllReadyH.cons rfl (fun K hK=>?_) ?_
   ·go_simp
    refine (N2.out _).mono ?_
    rintro e v2 ⟨rfl,qv2⟩
    try go_wp2_with fail
    refine hK.out _ _ ⟨kept_cell hHeld.1 qv2,kept_cell hHeld.2 qv2⟩ (fun hHeld0=>?_)
    clear hK K hHeld
    have hHeld:=hHeld0
    clear hHeld0
    replace kB:=kept_cell kB qv2
    replace qW:=qW.trans qv2
    try simp only [Act.put,nrm]
    refine wpAnyH_ready (rs:=[16]) (by kernel_rfl) (by simp) ?_
    refine AllReadyH.cons rfl (fun K hK=>?_) ?_
    ·go_simp
     refine (N3.out _).mono ?_
     rintro e v3 ⟨rfl,qv3⟩
     try go_wp2_with fail
     refine hK.out _ _ ⟨kept_cell hHeld.1 qv3,kept_cell hHeld.2 qv3⟩ (fun hHeld0=>?_)
     clear hK K hHeld
     have hHeld:=hHeld0
     clear hHeld0
     replace kB:=kept_cell kB qv3
     replace qW:=qW.trans qv3
     try simp only [Act.put,nrm]
     refine wpAnyH_ready (rs:=[17]) (by kernel_rfl) (by simp) ?_
     refine AllReadyH.cons rfl (fun K hK=>?_) ?_
     ·go_simp
      refine hK.out _ _ ⟨kept_cell hHeld.1 ((Q.refl v3).alloc #[.string e1,.string e2,.string key,.string e3] 9),kept_cell hHeld.2 ((Q.refl v3).alloc #[.string e1,.string e2,.string key,.string e3] 9)⟩ (fun hHeld0=>?_)
      clear hK K hHeld
      have hHeld:=hHeld0
      clear hHeld0
      replace kB:=kept_cell kB ((Q.refl v3).alloc #[.string e1,.string e2,.string key,.string e3] 9)
      replace qW:=qW.trans ((Q.refl v3).alloc #[.string e1,.string e2,.string key,.string e3] 9)
      try simp only [Act.put,nrm]
      obtain ⟨b4,hb4⟩:∃ b4,b4=v3.alloc (.cells #[.string e1,.string e2,.string key,.string e3] 9):=⟨_,rfl⟩
      have hN:b4.heap.size=v3.heap.size+1:=by rw [hb4];simp
      have hcl:∀ j u,(strVals [e1,e2,key,e3])[j]?=some u→b4.cell? ((⟨v3.heap.size,0,none⟩:Addr).add j)=some u:=by rw [hb4];exact four_cells _ _ _ _ _ _ _ rfl
      rw [←hb4] at hHeld kB qW ⊢
      clear hb4
      refine wpAnyH_ready (rs:=[18]) (by kernel_rfl) (by simp) ?_
      refine AllReadyH.cons rfl (fun K hK=>?_) AllReadyH.nil
      refine step_append_w rfl (.tmp 38) (.tmp 51) 63 rfl 0 9 i0 (.string ⟨#[]⟩) 1 16 Tryz.underlying63 hi hz0 hz1 hz2 rfl (by decide) (.slice bo ixs.length bcap) ixs.length (strVals ixs) (by simp [Act.eval]) (own_below b2 qW.below) ⟨v3.heap.size,0,none⟩ 4 4 (strVals [e1,e2,key,e3]) (by simp [Act.eval]) rfl hcl (strVals_one _) (by decide) (by unfold maxLen;omega) (by omega) (Nat.zero_le _) ?_
      intro v' w' hown' hgrow hwh
      obtain ⟨ao3,cap3,hv3⟩:=own_form hown'
      subst hv3
      have kc:=HA.out.cells4 qW b3 hgrow
      have kc3:=(kc 3).1.trans b1
      have kf3:=(kc 3).2
      obtain ⟨⟨x1,y1⟩,f1,⟨x2,y2⟩,f2⟩:=HA.out.sets kc (.slice ao3 (ixs.length+4) cap3) (.slice none 0 0)
      have HP:Hid _:=HA.out.indexed qW rfl b2 b3 hgrow hown' hwh
      have hLb:w'.heap[w1.heap.size]?=b4.heap[w1.heap.size]?:=hgrow.block _ (Nat.lt_of_lt_of_le (cell_lt hHeld.1) (Nat.le_refl _)) (fun e=>by have:=(b2.lt _ e.symm).2;omega)
      have hS1:w'.cell? ⟨w1.heap.size,0,none⟩=some (.string key)∧w'.cell? ⟨w1.heap.size,1,none⟩=some (.int .i64 stamp):=⟨(World.cell?_of_block (a:=⟨w1.heap.size,0,none⟩) hLb).trans hHeld.1,(World.cell?_of_block (a:=⟨w1.heap.size,1,none⟩) hLb).trans hHeld.2⟩
      have hBl:B≠w1.heap.size:=fun e=>by have:=HA.out.top;omega
      refine hK.out _ _ hS1 (fun _=>?_)
      clear hK K hHeld
      have hHeld:=hS1
      try simp only [Act.put,nrm]
      refine tk3 (i:=19) (v:=?_) rfl (Or.inl ⟨by kernel_rfl,?_⟩) hHeld ?_
      rotate_left
      ·(intro w hSw;(try dsimp only at hSw);go_simp;try with_reducible rfl)
      try simp only [Act.put,nrm]
      refine tk3 (i:=20) (v:=?_) rfl (Or.inl ⟨by kernel_rfl,?_⟩) hHeld ?_
      rotate_left
      ·(intro w hSw;(try dsimp only at hSw);go_simp;try with_reducible rfl)
      try simp only [Act.put,nrm]
      refine wpAnyH_ready (rs:=[21]) (by kernel_rfl) (by simp) ?_
      refine AllReadyH.cons rfl (fun K hK=>?_) AllReadyH.nil
      go_simp
      refine hK.out _ _ ⟨(World.cell?_setCell_other _ _ _ _ (by intro e;injection e with e1;omega)).trans hS1.1,(World.cell?_setCell_other _ _ _ _ (by intro e;injection e with e1;omega)).trans hS1.2⟩ (fun _=>?_)
      clear hK K
      refine wpAnyH_done (by kernel_rfl) ?_ _
      clear hHeld hS1 hLb kc kc3 kf3 hgrow hown' hwh hcl
      obtain ⟨tg3,ht3,hW3,ho3⟩:=HP.out
      have x0:=hW3.c0
      have DA2:Hid _:=fun (_:Unit)=>DA.out _ tg3 (HL.out.only hne ht3 ho3)
      have HE:Hid _:=And.intro ht3 (And.intro hW3 ho3)
      clear HP DA ht3 hW3 ho3
      go_wp2_with fail
      refine (DA2.out ()).mono ?_
      rintro e w4 ⟨rfl,tg4,ids4,ps4,ht4,hL4,ho4⟩
      obtain ⟨ht3,hW3,ho3⟩:=HE.out
      have HF4:Hid _:=And.intro ht4 (And.intro hL4 ho4)
      clear DA2 ht4 hL4 ho4 ht3 hW3 ho3 x0 y1 y2 f1 f2
      go_wp2_with fail
      go_ret
      obtain ⟨ht3,hW3,ho3⟩:=HE.out
      obtain ⟨ht4,hL4,ho4⟩:=HF4.out
      exact ⟨rfl,tg4,ids4,ps4,hL4,hW3.keep ho4.size ht4 (fun k hk e=>ho4.block k hk (by rw [e];exact hne)),(Kept.of_only ho3 ht3 (Or.inl rfl)).trans (Kept.of_only ho4 ht4 (Or.inr rfl))⟩
     exact AllReadyH.nil
    exact AllReadyH.nil
   exact AllReadyH.nil
  exact AllReadyH.nil
 refine AllReadyH.cons rfl (fun K hK=>?_) ?_
 ·go_simp
  refine (N1.out _).mono ?_
  rintro e v5 ⟨rfl,qv5⟩
  try go_wp2_with fail
  refine hK.out _ _ ⟨kept_cell hHeld.1 qv5,kept_cell hHeld.2 qv5⟩ (fun hHeld0=>?_)
  clear hK K hHeld
  have hHeld:=hHeld0
  clear hHeld0
  replace kB:=kept_cell kB qv5
  replace qW:=qW.trans qv5
  try simp only [Act.put,nrm]
  refine wpAnyH_ready (rs:=[4,11]) (by kernel_rfl) (by simp) ?_
  refine AllReadyH.cons rfl (fun K hK=>?_) ?_
  ·go_simp
   refine hK.out _ _ hHeld (fun _=>?_)
   clear hK K
   try simp only [Act.put,nrm]
   refine wpAnyH_ready (rs:=[11]) (by kernel_rfl) (by simp) ?_
   refine AllReadyH.cons rfl (fun K hK=>?_) ?_
   ·go_simp
    refine (N2.out _).mono ?_
    rintro e v6 ⟨rfl,qv6⟩
    try go_wp2_with fail
    refine hK.out _ _ ⟨kept_cell hHeld.1 qv6,kept_cell hHeld.2 qv6⟩ (fun hHeld0=>?_)
    clear hK K hHeld
    have hHeld:=hHeld0
    clear hHeld0
    replace kB:=kept_cell kB qv6
    replace qW:=qW.trans qv6
    try simp only [Act.put,nrm]
    refine wpAnyH_ready (rs:=[16]) (by kernel_rfl) (by simp) ?_
    refine AllReadyH.cons rfl (fun K hK=>?_) ?_
    ·go_simp
     refine (N3.out _).mono ?_
     rintro e v7 ⟨rfl,qv7⟩
     try go_wp2_with fail
     refine hK.out _ _ ⟨kept_cell hHeld.1 qv7,kept_cell hHeld.2 qv7⟩ (fun hHeld0=>?_)
     clear hK K hHeld
     have hHeld:=hHeld0
     clear hHeld0
     replace kB:=kept_cell kB qv7
     replace qW:=qW.trans qv7
     try simp only [Act.put,nrm]
     refine wpAnyH_ready (rs:=[17]) (by kernel_rfl) (by simp) ?_
     refine AllReadyH.cons rfl (fun K hK=>?_) ?_
     ·go_simp
      refine hK.out _ _ ⟨kept_cell hHeld.1 ((Q.refl v7).alloc #[.string e1,.string e2,.string key,.string e3] 9),kept_cell hHeld.2 ((Q.refl v7).alloc #[.string e1,.string e2,.string key,.string e3] 9)⟩ (fun hHeld0=>?_)
      clear hK K hHeld
      have hHeld:=hHeld0
      clear hHeld0
      replace kB:=kept_cell kB ((Q.refl v7).alloc #[.string e1,.string e2,.string key,.string e3] 9)
      replace qW:=qW.trans ((Q.refl v7).alloc #[.string e1,.string e2,.string key,.string e3] 9)
      try simp only [Act.put,nrm]
      obtain ⟨b8,hb8⟩:∃ b8,b8=v7.alloc (.cells #[.string e1,.string e2,.string key,.string e3] 9):=⟨_,rfl⟩
      have hN:b8.heap.size=v7.heap.size+1:=by rw [hb8];simp
      have hcl:∀ j u,(strVals [e1,e2,key,e3])[j]?=some u→b8.cell? ((⟨v7.heap.size,0,none⟩:Addr).add j)=some u:=by rw [hb8];exact four_cells _ _ _ _ _ _ _ rfl
      rw [←hb8] at hHeld kB qW ⊢
      clear hb8
      refine wpAnyH_ready (rs:=[18]) (by kernel_rfl) (by simp) ?_
      refine AllReadyH.cons rfl (fun K hK=>?_) AllReadyH.nil
      refine step_append_w rfl (.tmp 38) (.tmp 51) 63 rfl 0 9 i0 (.string ⟨#[]⟩) 1 16 Tryz.underlying63 hi hz0 hz1 hz2 rfl (by decide) (.slice bo ixs.length bcap) ixs.length (strVals ixs) (by simp [Act.eval]) (own_below b2 qW.below) ⟨v7.heap.size,0,none⟩ 4 4 (strVals [e1,e2,key,e3]) (by simp [Act.eval]) rfl hcl (strVals_one _) (by decide) (by unfold maxLen;omega) (by omega) (Nat.zero_le _) ?_
      intro v' w' hown' hgrow hwh
      obtain ⟨ao3,cap3,hv3⟩:=own_form hown'
      subst hv3
      have kc:=HA.out.cells4 qW b3 hgrow
      have kc3:=(kc 3).1.trans b1
      have kf3:=(kc 3).2
      obtain ⟨⟨x1,y1⟩,f1,⟨x2,y2⟩,f2⟩:=HA.out.sets kc (.slice ao3 (ixs.length+4) cap3) (.slice none 0 0)
      have HP:Hid _:=HA.out.indexed qW rfl b2 b3 hgrow hown' hwh
      have hLb:w'.heap[w1.heap.size]?=b8.heap[w1.heap.size]?:=hgrow.block _ (Nat.lt_of_lt_of_le (cell_lt hHeld.1) (Nat.le_refl _)) (fun e=>by have:=(b2.lt _ e.symm).2;omega)
      have hS1:w'.cell? ⟨w1.heap.size,0,none⟩=some (.string key)∧w'.cell? ⟨w1.heap.size,1,none⟩=some (.int .i64 stamp):=⟨(World.cell?_of_block (a:=⟨w1.heap.size,0,none⟩) hLb).trans hHeld.1,(World.cell?_of_block (a:=⟨w1.heap.size,1,none⟩) hLb).trans hHeld.2⟩
      have hBl:B≠w1.heap.size:=fun e=>by have:=HA.out.top;omega
      refine hK.out _ _ hS1 (fun _=>?_)
      clear hK K hHeld
      have hHeld:=hS1
      try simp only [Act.put,nrm]
      refine tk3 (i:=19) (v:=?_) rfl (Or.inl ⟨by kernel_rfl,?_⟩) hHeld ?_
      rotate_left
      ·(intro w hSw;(try dsimp only at hSw);go_simp;try with_reducible rfl)
      try simp only [Act.put,nrm]
      refine tk3 (i:=20) (v:=?_) rfl (Or.inl ⟨by kernel_rfl,?_⟩) hHeld ?_
      rotate_left
      ·(intro w hSw;(try dsimp only at hSw);go_simp;try with_reducible rfl)
      try simp only [Act.put,nrm]
      refine wpAnyH_ready (rs:=[21]) (by kernel_rfl) (by simp) ?_
      refine AllReadyH.cons rfl (fun K hK=>?_) AllReadyH.nil
      go_simp
      refine hK.out _ _ ⟨(World.cell?_setCell_other _ _ _ _ (by intro e;injection e with e1;omega)).trans hS1.1,(World.cell?_setCell_other _ _ _ _ (by intro e;injection e with e1;omega)).trans hS1.2⟩ (fun _=>?_)
      clear hK K
      refine wpAnyH_done (by kernel_rfl) ?_ _
      clear hHeld hS1 hLb kc kc3 kf3 hgrow hown' hwh hcl
      obtain ⟨tg3,ht3,hW3,ho3⟩:=HP.out
      have x0:=hW3.c0
      have DA2:Hid _:=fun (_:Unit)=>DA.out _ tg3 (HL.out.only hne ht3 ho3)
      have HE:Hid _:=And.intro ht3 (And.intro hW3 ho3)
      clear HP DA ht3 hW3 ho3
      go_wp2_with fail
      refine (DA2.out ()).mono ?_
      rintro e w4 ⟨rfl,tg4,ids4,ps4,ht4,hL4,ho4⟩
      obtain ⟨ht3,hW3,ho3⟩:=HE.out
      have HF4:Hid _:=And.intro ht4 (And.intro hL4 ho4)
      clear DA2 ht4 hL4 ho4 ht3 hW3 ho3 x0 y1 y2 f1 f2
      go_wp2_with fail
      go_ret
      obtain ⟨ht3,hW3,ho3⟩:=HE.out
      obtain ⟨ht4,hL4,ho4⟩:=HF4.out
      exact ⟨rfl,tg4,ids4,ps4,hL4,hW3.keep ho4.size ht4 (fun k hk e=>ho4.block k hk (by rw [e];exact hne)),(Kept.of_only ho3 ht3 (Or.inl rfl)).trans (Kept.of_only ho4 ht4 (Or.inr rfl))⟩
     exact AllReadyH.nil
    exact AllReadyH.nil
   exact AllReadyH.nil
  refine AllReadyH.cons rfl (fun K hK=>?_) ?_
  ·go_simp
   refine (N2.out _).mono ?_
   rintro e v9 ⟨rfl,qv9⟩
   try go_wp2_with fail
   refine hK.out _ _ ⟨kept_cell hHeld.1 qv9,kept_cell hHeld.2 qv9⟩ (fun hHeld0=>?_)
   clear hK K hHeld
   have hHeld:=hHeld0
   clear hHeld0
   replace kB:=kept_cell kB qv9
   replace qW:=qW.trans qv9
   try simp only [Act.put,nrm]
   refine wpAnyH_ready (rs:=[4,16]) (by kernel_rfl) (by simp) ?_
   refine AllReadyH.cons rfl (fun K hK=>?_) ?_
   ·go_simp
    refine hK.out _ _ hHeld (fun _=>?_)
    clear hK K
    try simp only [Act.put,nrm]
    refine wpAnyH_ready (rs:=[16]) (by kernel_rfl) (by simp) ?_
    refine AllReadyH.cons rfl (fun K hK=>?_) ?_
    ·go_simp
     refine (N3.out _).mono ?_
     rintro e v10 ⟨rfl,qv10⟩
     try go_wp2_with fail
     refine hK.out _ _ ⟨kept_cell hHeld.1 qv10,kept_cell hHeld.2 qv10⟩ (fun hHeld0=>?_)
     clear hK K hHeld
     have hHeld:=hHeld0
     clear hHeld0
     replace kB:=kept_cell kB qv10
     replace qW:=qW.trans qv10
     try simp only [Act.put,nrm]
     refine wpAnyH_ready (rs:=[17]) (by kernel_rfl) (by simp) ?_
     refine AllReadyH.cons rfl (fun K hK=>?_) ?_
     ·go_simp
      refine hK.out _ _ ⟨kept_cell hHeld.1 ((Q.refl v10).alloc #[.string e1,.string e2,.string key,.string e3] 9),kept_cell hHeld.2 ((Q.refl v10).alloc #[.string e1,.string e2,.string key,.string e3] 9)⟩ (fun hHeld0=>?_)
      clear hK K hHeld
      have hHeld:=hHeld0
      clear hHeld0
      replace kB:=kept_cell kB ((Q.refl v10).alloc #[.string e1,.string e2,.string key,.string e3] 9)
      replace qW:=qW.trans ((Q.refl v10).alloc #[.string e1,.string e2,.string key,.string e3] 9)
      try simp only [Act.put,nrm]
      obtain ⟨b11,hb11⟩:∃ b11,b11=v10.alloc (.cells #[.string e1,.string e2,.string key,.string e3] 9):=⟨_,rfl⟩
      have hN:b11.heap.size=v10.heap.size+1:=by rw [hb11];simp
      have hcl:∀ j u,(strVals [e1,e2,key,e3])[j]?=some u→b11.cell? ((⟨v10.heap.size,0,none⟩:Addr).add j)=some u:=by rw [hb11];exact four_cells _ _ _ _ _ _ _ rfl
      rw [←hb11] at hHeld kB qW ⊢
      clear hb11
      refine wpAnyH_ready (rs:=[18]) (by kernel_rfl) (by simp) ?_
      refine AllReadyH.cons rfl (fun K hK=>?_) AllReadyH.nil
      refine step_append_w rfl (.tmp 38) (.tmp 51) 63 rfl 0 9 i0 (.string ⟨#[]⟩) 1 16 Tryz.underlying63 hi hz0 hz1 hz2 rfl (by decide) (.slice bo ixs.length bcap) ixs.length (strVals ixs) (by simp [Act.eval]) (own_below b2 qW.below) ⟨v10.heap.size,0,none⟩ 4 4 (strVals [e1,e2,key,e3]) (by simp [Act.eval]) rfl hcl (strVals_one _) (by decide) (by unfold maxLen;omega) (by omega) (Nat.zero_le _) ?_
      intro v' w' hown' hgrow hwh
      obtain ⟨ao3,cap3,hv3⟩:=own_form hown'
      subst hv3
      have kc:=HA.out.cells4 qW b3 hgrow
      have kc3:=(kc 3).1.trans b1
      have kf3:=(kc 3).2
      obtain ⟨⟨x1,y1⟩,f1,⟨x2,y2⟩,f2⟩:=HA.out.sets kc (.slice ao3 (ixs.length+4) cap3) (.slice none 0 0)
      have HP:Hid _:=HA.out.indexed qW rfl b2 b3 hgrow hown' hwh
      have hLb:w'.heap[w1.heap.size]?=b11.heap[w1.heap.size]?:=hgrow.block _ (Nat.lt_of_lt_of_le (cell_lt hHeld.1) (Nat.le_refl _)) (fun e=>by have:=(b2.lt _ e.symm).2;omega)
      have hS1:w'.cell? ⟨w1.heap.size,0,none⟩=some (.string key)∧w'.cell? ⟨w1.heap.size,1,none⟩=some (.int .i64 stamp):=⟨(World.cell?_of_block (a:=⟨w1.heap.size,0,none⟩) hLb).trans hHeld.1,(World.cell?_of_block (a:=⟨w1.heap.size,1,none⟩) hLb).trans hHeld.2⟩
      have hBl:B≠w1.heap.size:=fun e=>by have:=HA.out.top;omega
      refine hK.out _ _ hS1 (fun _=>?_)
      clear hK K hHeld
      have hHeld:=hS1
      try simp only [Act.put,nrm]
      refine tk3 (i:=19) (v:=?_) rfl (Or.inl ⟨by kernel_rfl,?_⟩) hHeld ?_
      rotate_left
      ·(intro w hSw;(try dsimp only at hSw);go_simp;try with_reducible rfl)
      try simp only [Act.put,nrm]
      refine tk3 (i:=20) (v:=?_) rfl (Or.inl ⟨by kernel_rfl,?_⟩) hHeld ?_
      rotate_left
      ·(intro w hSw;(try dsimp only at hSw);go_simp;try with_reducible rfl)
      try simp only [Act.put,nrm]
      refine wpAnyH_ready (rs:=[21]) (by kernel_rfl) (by simp) ?_
      refine AllReadyH.cons rfl (fun K hK=>?_) AllReadyH.nil
      go_simp
      refine hK.out _ _ ⟨(World.cell?_setCell_other _ _ _ _ (by intro e;injection e with e1;omega)).trans hS1.1,(World.cell?_setCell_other _ _ _ _ (by intro e;injection e with e1;omega)).trans hS1.2⟩ (fun _=>?_)
      clear hK K
      refine wpAnyH_done (by kernel_rfl) ?_ _
      clear hHeld hS1 hLb kc kc3 kf3 hgrow hown' hwh hcl
      obtain ⟨tg3,ht3,hW3,ho3⟩:=HP.out
      have x0:=hW3.c0
      have DA2:Hid _:=fun (_:Unit)=>DA.out _ tg3 (HL.out.only hne ht3 ho3)
      have HE:Hid _:=And.intro ht3 (And.intro hW3 ho3)
      clear HP DA ht3 hW3 ho3
      go_wp2_with fail
      refine (DA2.out ()).mono ?_
      rintro e w4 ⟨rfl,tg4,ids4,ps4,ht4,hL4,ho4⟩
      obtain ⟨ht3,hW3,ho3⟩:=HE.out
      have HF4:Hid _:=And.intro ht4 (And.intro hL4 ho4)
      clear DA2 ht4 hL4 ho4 ht3 hW3 ho3 x0 y1 y2 f1 f2
      go_wp2_with fail
      go_ret
      obtain ⟨ht3,hW3,ho3⟩:=HE.out
      obtain ⟨ht4,hL4,ho4⟩:=HF4.out
      exact ⟨rfl,tg4,ids4,ps4,hL4,hW3.keep ho4.size ht4 (fun k hk e=>ho4.block k hk (by rw [e];exact hne)),(Kept.of_only ho3 ht3 (Or.inl rfl)).trans (Kept.of_only ho4 ht4 (Or.inr rfl))⟩
     exact AllReadyH.nil
    exact AllReadyH.nil
   refine AllReadyH.cons rfl (fun K hK=>?_) ?_
   ·go_simp
    refine (N3.out _).mono ?_
    rintro e v12 ⟨rfl,qv12⟩
    try go_wp2_with fail
    refine hK.out _ _ ⟨kept_cell hHeld.1 qv12,kept_cell hHeld.2 qv12⟩ (fun hHeld0=>?_)
    clear hK K hHeld
    have hHeld:=hHeld0
    clear hHeld0
    replace kB:=kept_cell kB qv12
    replace qW:=qW.trans qv12
    try simp only [Act.put,nrm]
    refine wpAnyH_ready (rs:=[4,17]) (by kernel_rfl) (by simp) ?_
    refine AllReadyH.cons rfl (fun K hK=>?_) ?_
    ·go_simp
     refine hK.out _ _ hHeld (fun _=>?_)
     clear hK K
     try simp only [Act.put,nrm]
     refine wpAnyH_ready (rs:=[17]) (by kernel_rfl) (by simp) ?_
     refine AllReadyH.cons rfl (fun K hK=>?_) ?_
     ·go_simp
      refine hK.out _ _ ⟨kept_cell hHeld.1 ((Q.refl v12).alloc #[.string e1,.string e2,.string key,.string e3] 9),kept_cell hHeld.2 ((Q.refl v12).alloc #[.string e1,.string e2,.string key,.string e3] 9)⟩ (fun hHeld0=>?_)
      clear hK K hHeld
      have hHeld:=hHeld0
      clear hHeld0
      replace kB:=kept_cell kB ((Q.refl v12).alloc #[.string e1,.string e2,.string key,.string e3] 9)
      replace qW:=qW.trans ((Q.refl v12).alloc #[.string e1,.string e2,.string key,.string e3] 9)
      try simp only [Act.put,nrm]
      obtain ⟨b13,hb13⟩:∃ b13,b13=v12.alloc (.cells #[.string e1,.string e2,.string key,.string e3] 9):=⟨_,rfl⟩
      have hN:b13.heap.size=v12.heap.size+1:=by rw [hb13];simp
      have hcl:∀ j u,(strVals [e1,e2,key,e3])[j]?=some u→b13.cell? ((⟨v12.heap.size,0,none⟩:Addr).add j)=some u:=by rw [hb13];exact four_cells _ _ _ _ _ _ _ rfl
      rw [←hb13] at hHeld kB qW ⊢
      clear hb13
      refine wpAnyH_ready (rs:=[18]) (by kernel_rfl) (by simp) ?_
      refine AllReadyH.cons rfl (fun K hK=>?_) AllReadyH.nil
      refine step_append_w rfl (.tmp 38) (.tmp 51) 63 rfl 0 9 i0 (.string ⟨#[]⟩) 1 16 Tryz.underlying63 hi hz0 hz1 hz2 rfl (by decide) (.slice bo ixs.length bcap) ixs.length (strVals ixs) (by simp [Act.eval]) (own_below b2 qW.below) ⟨v12.heap.size,0,none⟩ 4 4 (strVals [e1,e2,key,e3]) (by simp [Act.eval]) rfl hcl (strVals_one _) (by decide) (by unfold maxLen;omega) (by omega) (Nat.zero_le _) ?_
      intro v' w' hown' hgrow hwh
      obtain ⟨ao3,cap3,hv3⟩:=own_form hown'
      subst hv3
      have kc:=HA.out.cells4 qW b3 hgrow
      have kc3:=(kc 3).1.trans b1
      have kf3:=(kc 3).2
      obtain ⟨⟨x1,y1⟩,f1,⟨x2,y2⟩,f2⟩:=HA.out.sets kc (.slice ao3 (ixs.length+4) cap3) (.slice none 0 0)
      have HP:Hid _:=HA.out.indexed qW rfl b2 b3 hgrow hown' hwh
      have hLb:w'.heap[w1.heap.size]?=b13.heap[w1.heap.size]?:=hgrow.block _ (Nat.lt_of_lt_of_le (cell_lt hHeld.1) (Nat.le_refl _)) (fun e=>by have:=(b2.lt _ e.symm).2;omega)
      have hS1:w'.cell? ⟨w1.heap.size,0,none⟩=some (.string key)∧w'.cell? ⟨w1.heap.size,1,none⟩=some (.int .i64 stamp):=⟨(World.cell?_of_block (a:=⟨w1.heap.size,0,none⟩) hLb).trans hHeld.1,(World.cell?_of_block (a:=⟨w1.heap.size,1,none⟩) hLb).trans hHeld.2⟩
      have hBl:B≠w1.heap.size:=fun e=>by have:=HA.out.top;omega
      refine hK.out _ _ hS1 (fun _=>?_)
      clear hK K hHeld
      have hHeld:=hS1
      try simp only [Act.put,nrm]
      refine tk3 (i:=19) (v:=?_) rfl (Or.inl ⟨by kernel_rfl,?_⟩) hHeld ?_
      rotate_left
      ·(intro w hSw;(try dsimp only at hSw);go_simp;try with_reducible rfl)
      try simp only [Act.put,nrm]
      refine tk3 (i:=20) (v:=?_) rfl (Or.inl ⟨by kernel_rfl,?_⟩) hHeld ?_
      rotate_left
      ·(intro w hSw;(try dsimp only at hSw);go_simp;try with_reducible rfl)
      try simp only [Act.put,nrm]
      refine wpAnyH_ready (rs:=[21]) (by kernel_rfl) (by simp) ?_
      refine AllReadyH.cons rfl (fun K hK=>?_) AllReadyH.nil
      go_simp
      refine hK.out _ _ ⟨(World.cell?_setCell_other _ _ _ _ (by intro e;injection e with e1;omega)).trans hS1.1,(World.cell?_setCell_other _ _ _ _ (by intro e;injection e with e1;omega)).trans hS1.2⟩ (fun _=>?_)
      clear hK K
      refine wpAnyH_done (by kernel_rfl) ?_ _
      clear hHeld hS1 hLb kc kc3 kf3 hgrow hown' hwh hcl
      obtain ⟨tg3,ht3,hW3,ho3⟩:=HP.out
      have x0:=hW3.c0
      have DA2:Hid _:=fun (_:Unit)=>DA.out _ tg3 (HL.out.only hne ht3 ho3)
      have HE:Hid _:=And.intro ht3 (And.intro hW3 ho3)
      clear HP DA ht3 hW3 ho3
      go_wp2_with fail
      refine (DA2.out ()).mono ?_
      rintro e w4 ⟨rfl,tg4,ids4,ps4,ht4,hL4,ho4⟩
      obtain ⟨ht3,hW3,ho3⟩:=HE.out
      have HF4:Hid _:=And.intro ht4 (And.intro hL4 ho4)
      clear DA2 ht4 hL4 ho4 ht3 hW3 ho3 x0 y1 y2 f1 f2
      go_wp2_with fail
      go_ret
      obtain ⟨ht3,hW3,ho3⟩:=HE.out
      obtain ⟨ht4,hL4,ho4⟩:=HF4.out
      exact ⟨rfl,tg4,ids4,ps4,hL4,hW3.keep ho4.size ht4 (fun k hk e=>ho4.block k hk (by rw [e];exact hne)),(Kept.of_only ho3 ht3 (Or.inl rfl)).trans (Kept.of_only ho4 ht4 (Or.inr rfl))⟩
     exact AllReadyH.nil
    refine AllReadyH.cons rfl (fun K hK=>?_) ?_
    ·go_simp
     refine hK.out _ _ ⟨kept_cell hHeld.1 ((Q.refl v12).alloc #[.string e1,.string e2,.string key,.string e3] 9),kept_cell hHeld.2 ((Q.refl v12).alloc #[.string e1,.string e2,.string key,.string e3] 9)⟩ (fun hHeld0=>?_)
     clear hK K hHeld
     have hHeld:=hHeld0
     clear hHeld0
     replace kB:=kept_cell kB ((Q.refl v12).alloc #[.string e1,.string e2,.string key,.string e3] 9)
     replace qW:=qW.trans ((Q.refl v12).alloc #[.string e1,.string e2,.string key,.string e3] 9)
     try simp only [Act.put,nrm]
     obtain ⟨b14,hb14⟩:∃ b14,b14=v12.alloc (.cells #[.string e1,.string e2,.string key,.string e3] 9):=⟨_,rfl⟩
     have hN:b14.heap.size=v12.heap.size+1:=by rw [hb14];simp
     have hcl:∀ j u,(strVals [e1,e2,key,e3])[j]?=some u→b14.cell? ((⟨v12.heap.size,0,none⟩:Addr).add j)=some u:=by rw [hb14];exact four_cells _ _ _ _ _ _ _ rfl
     rw [←hb14] at hHeld kB qW ⊢
     clear hb14
     refine wpAnyH_ready (rs:=[4]) (by kernel_rfl) (by simp) ?_
     refine AllReadyH.cons rfl (fun K hK=>?_) ?_
     ·go_simp
      refine hK.out _ _ hHeld (fun _=>?_)
      clear hK K
      try simp only [Act.put,nrm]
      refine wpAnyH_ready (rs:=[18]) (by kernel_rfl) (by simp) ?_
      refine AllReadyH.cons rfl (fun K hK=>?_) AllReadyH.nil
      refine step_append_w rfl (.tmp 38) (.tmp 51) 63 rfl 0 9 i0 (.string ⟨#[]⟩) 1 16 Tryz.underlying63 hi hz0 hz1 hz2 rfl (by decide) (.slice bo ixs.length bcap) ixs.length (strVals ixs) (by simp [Act.eval]) (own_below b2 qW.below) ⟨v12.heap.size,0,none⟩ 4 4 (strVals [e1,e2,key,e3]) (by simp [Act.eval]) rfl hcl (strVals_one _) (by decide) (by unfold maxLen;omega) (by omega) (Nat.zero_le _) ?_
      intro v' w' hown' hgrow hwh
      obtain ⟨ao3,cap3,hv3⟩:=own_form hown'
      subst hv3
      have kc:=HA.out.cells4 qW b3 hgrow
      have kc3:=(kc 3).1.trans b1
      have kf3:=(kc 3).2
      obtain ⟨⟨x1,y1⟩,f1,⟨x2,y2⟩,f2⟩:=HA.out.sets kc (.slice ao3 (ixs.length+4) cap3) (.slice none 0 0)
      have HP:Hid _:=HA.out.indexed qW rfl b2 b3 hgrow hown' hwh
      have hLb:w'.heap[w1.heap.size]?=b14.heap[w1.heap.size]?:=hgrow.block _ (Nat.lt_of_lt_of_le (cell_lt hHeld.1) (Nat.le_refl _)) (fun e=>by have:=(b2.lt _ e.symm).2;omega)
      have hS1:w'.cell? ⟨w1.heap.size,0,none⟩=some (.string key)∧w'.cell? ⟨w1.heap.size,1,none⟩=some (.int .i64 stamp):=⟨(World.cell?_of_block (a:=⟨w1.heap.size,0,none⟩) hLb).trans hHeld.1,(World.cell?_of_block (a:=⟨w1.heap.size,1,none⟩) hLb).trans hHeld.2⟩
      have hBl:B≠w1.heap.size:=fun e=>by have:=HA.out.top;omega
      refine hK.out _ _ hS1 (fun _=>?_)
      clear hK K hHeld
      have hHeld:=hS1
      try simp only [Act.put,nrm]
      refine tk3 (i:=19) (v:=?_) rfl (Or.inl ⟨by kernel_rfl,?_⟩) hHeld ?_
      rotate_left
      ·(intro w hSw;(try dsimp only at hSw);go_simp;try with_reducible rfl)
      try simp only [Act.put,nrm]
      refine tk3 (i:=20) (v:=?_) rfl (Or.inl ⟨by kernel_rfl,?_⟩) hHeld ?_
      rotate_left
      ·(intro w hSw;(try dsimp only at hSw);go_simp;try with_reducible rfl)
      try simp only [Act.put,nrm]
      refine wpAnyH_ready (rs:=[21]) (by kernel_rfl) (by simp) ?_
      refine AllReadyH.cons rfl (fun K hK=>?_) AllReadyH.nil
      go_simp
      refine hK.out _ _ ⟨(World.cell?_setCell_other _ _ _ _ (by intro e;injection e with e1;omega)).trans hS1.1,(World.cell?_setCell_other _ _ _ _ (by intro e;injection e with e1;omega)).trans hS1.2⟩ (fun _=>?_)
      clear hK K
      refine wpAnyH_done (by kernel_rfl) ?_ _
      clear hHeld hS1 hLb kc kc3 kf3 hgrow hown' hwh hcl
      obtain ⟨tg3,ht3,hW3,ho3⟩:=HP.out
      have x0:=hW3.c0
      have DA2:Hid _:=fun (_:Unit)=>DA.out _ tg3 (HL.out.only hne ht3 ho3)
      have HE:Hid _:=And.intro ht3 (And.intro hW3 ho3)
      clear HP DA ht3 hW3 ho3
      go_wp2_with fail
      refine (DA2.out ()).mono ?_
      rintro e w4 ⟨rfl,tg4,ids4,ps4,ht4,hL4,ho4⟩
      obtain ⟨ht3,hW3,ho3⟩:=HE.out
      have HF4:Hid _:=And.intro ht4 (And.intro hL4 ho4)
      clear DA2 ht4 hL4 ho4 ht3 hW3 ho3 x0 y1 y2 f1 f2
      go_wp2_with fail
      go_ret
      obtain ⟨ht3,hW3,ho3⟩:=HE.out
      obtain ⟨ht4,hL4,ho4⟩:=HF4.out
      exact ⟨rfl,tg4,ids4,ps4,hL4,hW3.keep ho4.size ht4 (fun k hk e=>ho4.block k hk (by rw [e];exact hne)),(Kept.of_only ho3 ht3 (Or.inl rfl)).trans (Kept.of_only ho4 ht4 (Or.inr rfl))⟩
     exact AllReadyH.nil
    exact AllReadyH.nil
   exact AllReadyH.nil
  exact AllReadyH.nil
 exact AllReadyH.nil
structure Wrt (w:World) (tg:Tags) (ow od B d:Nat) (T0 T:S.Two) (bs:List (List Rec)) (ol:List Rec) (C:S.Con) (nw:List (ByteArray × Int)):Prop where
 wri:WriAt w tg ow B d ol (S.ixsOf bs) nw
 disk:∃ ids ps,LDiskAt w tg od d T.dsk ids ps
 fine:T.dsk.Fine
 ne:ow≠od
 tab:Tab w
 tabo:(tg 1).1≠ow∧(tg 1).1≠od
 m:S.Wri theAp bs ol C
 bld:S.Bld T0 T (S.dat bs)
def Stopped (w:World) (tg:Tags) (od d:Nat) (T0:S.Two) (V:S.Con) (c:Nat):Prop:=
 ∃ T ids ps,LDiskAt w tg od d T.dsk ids ps∧T.dsk.Fine∧((c=9∧(∃ x,S.Bld T0 T x)∧S.Full T0 V)∨(c=10∧S.Died T0 T))
abbrev Wo (ow od:Nat):Nat→Prop:=fun x=>x=ow∨x=od
theorem Stopped.keep {w w':World} {tg tg':Tags} {od d:Nat} {T0:S.Two} {V:S.Con} {c:Nat} {P:Nat→Prop} (h:Stopped w tg od d T0 V c) (k:Kept P tg w tg' w') (hP:¬P od):Stopped w' tg' od d T0 V c:=by
 obtain ⟨T,ids,ps,h1,h2⟩:=h
 exact ⟨T,ids,ps,h1.keep k.size (fun i hi=>k.tags i hi) (fun i hi e=>k.block i hi (by rw [e];exact hP)),h2⟩
theorem Wrt.keep {w w':World} {tg tg':Tags} {ow od B d:Nat} {T0 T:S.Two} {bs:List (List Rec)} {ol:List Rec} {C:S.Con} {nw:List (ByteArray × Int)} {P:Nat→Prop} (h:Wrt w tg ow od B d T0 T bs ol C nw) (k:Kept P tg w tg' w') (h1:¬P ow) (h2:¬P od) (h3:¬P (tg 1).1):Wrt w' tg' ow od B d T0 T bs ol C nw:=by
 have hG:=tab_lt h.tab
 obtain ⟨ids,ps,hd⟩:=h.disk
 exact ⟨h.wri.keep k.size k.tags (fun i hi e=>k.block i hi (by rw [e];exact h1)),⟨ids,ps,hd.keep k.size (fun i hi=>k.tags i hi) (fun i hi e=>k.block i hi (by rw [e];exact h2))⟩,h.fine,h.ne,tab_block h.tab (k.block _ hG h3),by rw [k.tags _ hG];exact h.tabo,h.m,h.bld⟩
theorem Wrt.kept {w w':World} {tg:Tags} {ow od B d:Nat} {T0 T:S.Two} {bs:List (List Rec)} {ol:List Rec} {C:S.Con} {nw:List (ByteArray × Int)} (h:Wrt w tg ow od B d T0 T bs ol C nw) (q:Q w w'):Wrt w' tg ow od B d T0 T bs ol C nw:=
 h.keep (P:=fun _=>False) (Kept.of_q q (fun _ _=>rfl)) (fun e=>e) (fun e=>e) (fun e=>e)
theorem Wrt.total {w:World} {tg:Tags} {ow od B d:Nat} {T0 T:S.Two} {bs:List (List Rec)} {ol:List Rec} {C:S.Con} {nw:List (ByteArray × Int)} (h:Wrt w tg ow od B d T0 T bs ol C nw):S.len T0.a+(S.blkOf bs).length≤1048576∧T0.cap≤1048576:=by
 have h1:=h.fine.good.fits
 have h2:=h.fine.good.cap
 rw [S.Two.total_dsk] at h1
 have h3:T.dsk.cap=T.cap:=rfl
 rw [h3] at h1 h2
 have h4:T.total=S.len T0.a+(S.blkOf bs).length:=by
  unfold S.Two.total
  rw [h.bld.a,h.bld.b,←S.dat_getD]
  cases S.dat bs<;>simp [S.len]
 have:=h.bld.cap
 exact ⟨by omega,by omega⟩
theorem Wrt.few {w:World} {tg:Tags} {ow od B d:Nat} {T0 T:S.Two} {bs:List (List Rec)} {ol:List Rec} {C:S.Con} {nw:List (ByteArray × Int)} (h:Wrt w tg ow od B d T0 T bs ol C nw):(S.ixsOf bs).length≤4194304:=by
 have h1:=h.total
 have h2:=S.blkOf_lots bs
 rw [S.ixsOf_length]
 omega
theorem openSize_le:∀ {ol:List Rec},(∀ r∈ol,r.fits=true)→openSize ol≤4264*ol.length
 | [],_=>by simp [openSize]
 | r::ol,h=>by
  have h1:=openSize_le (ol:=ol) (fun x hx=>h x (List.mem_cons_of_mem _ hx))
  have h2:=h r (List.mem_cons_self ..)
  simp only [Rec.fits,decide_eq_true_eq] at h2
  unfold openSize at h1 ⊢
  simp only [List.map_cons,List.sum_cons,List.length_cons]
  omega
theorem Full.mono {T0:S.Two} {V U:S.Con} (h:S.Full T0 V) (hV:∀ k v,v∈V k→v∈U k):S.Full T0 U:=by
 obtain ⟨R,h1,h2,h3⟩:=h
 refine ⟨R,h1,fun r hr=>?_,h3⟩
 obtain ⟨v,hv,h4⟩:=h2 r hr
 exact ⟨v,hV _ v hv,h4⟩
def ended (bs:List (List Rec)) (ol:List Rec):List (List Rec):=if ol=[] then bs else bs++[ol]
theorem endBlock_w {w:World} {tg:Tags} {ow od B d:Nat} {T0 T:S.Two} {bs:List (List Rec)} {ol:List Rec} {C V:S.Con} {nw:List (ByteArray × Int)} (h:Wrt w tg ow od B d T0 T bs ol C nw) (hV:∀ k v,v∈C k→v∈V k) :
  Calls Tryz.prog 88 #[.pointer (some ⟨B,0,none⟩)] w fun e w'=>∃ (c:Nat) (tg':Tags),e=.returned (.int .i64 (c:Int))∧Kept (Wo ow od) tg w tg' w'∧((c=0∧∃ T',Wrt w' tg' ow od B d T0 T' (ended bs ol) [] C nw)∨(c≠0∧Stopped w' tg' od d T0 V c)):=by
 by_cases ho:ol=[]
 ·subst ho
  refine (endBlock_none h.wri).mono ?_
  rintro e w' ⟨rfl,q⟩
  exact ⟨0,tg,rfl,Kept.of_q q (fun _ _=>rfl),Or.inl ⟨rfl,T,by unfold ended;rw [if_pos rfl];exact h.kept q⟩⟩
 ·obtain ⟨ids,ps,hd⟩:=h.disk
  have hG:=tab_lt h.tab
  refine (endBlock_some h.wri hd h.fine h.ne h.tab (h.m.okB ho) h.few).mono ?_
  rintro e w' ⟨rfl,tg',ids',ps',h1,h2,h3⟩
  have hFi:=h.fine.append freshN (S.blkText ol)
  rw [S.Two.append_dsk] at h1 hFi ⊢
  simp only at h1 hFi ⊢
  have hnG:¬Wo ow od (tg 1).1:=fun e=>e.elim h.tabo.1 h.tabo.2
  refine ⟨_,tg',rfl,h3,?_⟩
  rcases h.bld.append (S.blkText ol) with ⟨g1,g2,_⟩|⟨g1,g2,g3⟩|⟨g1,g2⟩
  ·refine Or.inl ⟨g1,(T.append (S.blkText ol)).1,?_⟩
   unfold ended
   rw [if_neg ho]
   refine ⟨by rw [S.ixsOf_snoc];exact h2,⟨ids',ps',h1⟩,hFi,h.ne,tab_block h.tab (h3.block _ hG hnG),by rw [h3.tags _ hG];exact h.tabo,h.m.cut ho,?_⟩
   rw [S.dat_snoc]
   exact g2
  ·rw [S.dat_getD] at g3
   refine Or.inr ⟨by omega,(T.append (S.blkText ol)).1,ids',ps',h1,hFi,Or.inl ⟨g1,⟨S.dat bs,by rw [g2];exact h.bld⟩,h.m.full ho hV g3⟩⟩
  ·exact Or.inr ⟨by omega,(T.append (S.blkText ol)).1,ids',ps',h1,hFi,Or.inr ⟨g1,g2⟩⟩
theorem Rcs.keepT {w w':World} {tg tg':Tags} {P:Nat→Prop} {ao:Option Addr} {R:List Rec} (h:Rcs w ao R) (k:Kept P tg w tg' w') (hP:∀ a,ao=some a→R≠[]→¬P (tg a.block).1):Rcs w' ao R:=by
 rcases h with h|⟨b,off,rfl,hb,hR⟩
 ·exact Or.inl h
 ·by_cases hR0:R=[]
  ·exact Or.inl hR0
  ·have hB:=k.block b hb (hP _ rfl hR0)
   have hc:∀ j,w'.cell? ⟨b,j,none⟩=w.cell? ⟨b,j,none⟩:=fun j=>World.cell?_of_block (a:=⟨b,j,none⟩) hB
   refine Or.inr ⟨b,off,rfl,Nat.lt_of_lt_of_le hb k.size,fun i r hi=>?_⟩
   obtain ⟨h0,h1,h2,h3⟩:=hR i r hi
   exact ⟨(hc _).trans h0,(hc _).trans h1,(hc _).trans h2,(hc _).trans h3⟩
structure AddSt (w:World) (tg:Tags) (ow od B d:Nat) (T0 T:S.Two) (bs:List (List Rec)) (ol:List Rec) (C:S.Con) (nw:List (ByteArray × Int)) (key:ByteArray) (R:List Rec) (U:List S.Vs) (k:Nat) (newer:ByteArray) (based:Bool):Prop where
 wrt:Wrt w tg ow od B d T0 T bs ol (C.put key (U.take k)) nw
 based:S.Based theAp ol key based newer
 run:S.run theAp ⟨#[]⟩ (R.take k)=some (U.take k,newer)
 small:newer.size≤4096
 bef:∀ x∈(bs++[ol]).flatten,∀ (j:Nat) (r:Rec),k≤j→R[j]?=some r→S.Bef x r
 keys:∀ x∈(bs++[ol]).flatten,S.kless x.key key∨x.key=key
theorem ended_flat (bs:List (List Rec)) (ol:List Rec):(ended bs ol++[([]:List Rec)]).flatten=(bs++[ol]).flatten:=by
 unfold ended
 split
 ·rename_i h;subst h;rfl
 ·simp
theorem AddSt.cut {w w':World} {tg tg':Tags} {ow od B d:Nat} {T0 T T':S.Two} {bs:List (List Rec)} {ol:List Rec} {C:S.Con} {nw:List (ByteArray × Int)} {key:ByteArray} {R:List Rec} {U:List S.Vs} {k:Nat} {newer:ByteArray} {based:Bool} (h:AddSt w tg ow od B d T0 T bs ol C nw key R U k newer based) (hW:Wrt w' tg' ow od B d T0 T' (ended bs ol) [] (C.put key (U.take k)) nw):AddSt w' tg' ow od B d T0 T' (ended bs ol) [] C nw key R U k newer false:=
 ⟨hW,S.Based.cut key newer,h.run,h.small,fun x hx=>h.bef x (by rw [ended_flat] at hx;exact hx),fun x hx=>h.keys x (by rw [ended_flat] at hx;exact hx)⟩
theorem AddSt.keep {w w':World} {tg tg':Tags} {ow od B d:Nat} {T0 T:S.Two} {bs:List (List Rec)} {ol:List Rec} {C:S.Con} {nw:List (ByteArray × Int)} {key:ByteArray} {R:List Rec} {U:List S.Vs} {k:Nat} {newer:ByteArray} {based:Bool} (h:AddSt w tg ow od B d T0 T bs ol C nw key R U k newer based) (q:Q w w') (ht:∀ i,i<w.heap.size→tg' i=tg i):AddSt w' tg' ow od B d T0 T bs ol C nw key R U k newer based:=
 ⟨h.wrt.keep (P:=fun _=>False) (Kept.of_q q ht) (fun e=>e) (fun e=>e) (fun e=>e),h.based,h.run,h.small,h.bef,h.keys⟩
theorem AddSt.next {w w':World} {tg tg':Tags} {ow od B d:Nat} {T0 T:S.Two} {bs:List (List Rec)} {ol:List Rec} {C:S.Con} {nw:List (ByteArray × Int)} {key:ByteArray} {R:List Rec} {U:List S.Vs} {k:Nat} {newer:ByteArray} {based:Bool} (h:AddSt w tg ow od B d T0 T bs ol C nw key R U k newer based)
  {r r':Rec} {s:ByteArray} (hr:R[k]?=some r) (hall:∀ x∈R,x.key=key) (hfall:R.Pairwise fun a b=>b.stamp<a.stamp) (hrun:S.run theAp ⟨#[]⟩ (R.take (k+1))=some (U.take (k+1),s)) (hU:U[k]?=some (S.verOf r s)) (hs:s.size≤4096) (hwr:S.Wrote theAp based newer r s r') (hl:ol.length<64)
  (hW:WriAt w' tg' ow B d (ol++[r']) (S.ixsOf bs) nw) (ht:∀ i,i<w.heap.size→tg' i=tg i) (ho:Only ow tg w w'):AddSt w' tg' ow od B d T0 T bs (ol++[r']) C nw key R U (k+1) s (based || decide (r.kind≠2)):=by
 have hkey:r.key=key:=hall r (List.mem_of_getElem? hr)
 obtain ⟨ids,ps,hd⟩:=h.wrt.disk
 have hG:=tab_lt h.wrt.tab
 have hmem:∀ x,x∈(bs++[ol++[r']]).flatten→x∈(bs++[ol]).flatten∨x=r':=fun x hx=>by
  have e:(bs++[ol++[r']]).flatten=(bs++[ol]).flatten++[r']:=by simp
  rw [e,List.mem_append] at hx
  simpa using hx
 have hm:S.Wri theAp bs (ol++[r']) (C.put key (U.take (k+1))):=by
  have h1:=h.wrt.m.push h.based hkey hwr hl (fun x hx=>h.bef x hx k r (Nat.le_refl _) hr)
  rw [S.Con.put_put,S.Con.put_at,←S.take_snoc hU] at h1
  exact h1
 refine ⟨⟨hW,⟨ids,ps,hd.only h.wrt.ne ht ho⟩,h.wrt.fine,h.wrt.ne,tab_block h.wrt.tab (ho.block _ hG h.wrt.tabo.1),by rw [ht _ hG];exact h.wrt.tabo,hm,h.wrt.bld⟩,(h.based.push hkey hwr).1,hrun,hs,fun x hx j y hj hy=>?_,fun x hx=>?_⟩
 ·rcases hmem x hx with hx|rfl
  ·exact h.bef x hx j y (by omega) hy
  ·refine Or.inr ⟨by rw [hwr.key,hkey,hall y (List.mem_of_getElem? hy)],?_⟩
   rw [hwr.stamp]
   have h1:=(List.getElem?_eq_some_iff.1 hr)
   have h2:=(List.getElem?_eq_some_iff.1 hy)
   have h3:=List.pairwise_iff_getElem.1 hfall k j h1.1 h2.1 (by omega)
   rw [h1.2,h2.2] at h3
   exact h3
 ·rcases hmem x hx with hx|rfl
  ·exact h.keys x hx
  ·exact Or.inr (by rw [hwr.key,hkey])
theorem val_small {r:Rec} {newer s:ByteArray} (hn:newer.size≤4096) (hk:r.kind=0∨r.kind=1∨r.kind=2) (hv:S.valOf theAp r newer=some s):s.size≤4096∧r.body.size≤4096:=by
 have h1:=S.valOf_size hv
 refine ⟨?_,by omega⟩
 rcases hk with h|h|h
 ·unfold S.verOf S.Vs.size at h1;simp [h] at h1;omega
 ·unfold S.verOf S.Vs.size at h1;simp [h] at h1;omega
 ·unfold S.valOf at hv
  rw [if_neg (by omega),if_pos h] at hv
  split at hv
  ·injection hv with hv;rw [←hv];exact hn
  ·cases hv
theorem put_room {bs:List (List Rec)} {ol:List Rec} {C:S.Con} (h:S.Wri theAp bs ol C):openSize ol≤1048576:=by
 have h1:=openSize_le (ol:=ol) (fun r hr=>h.fits r (by simp;exact Or.inr hr))
 have h2:=h.few
 omega
theorem put_rec {r:Rec} (h:r.fits=true):r.key.size+r.body.size≤1048576:=by
 simp only [Rec.fits,decide_eq_true_eq] at h
 omega
def AddRel (w:World) (tg:Tags) (ow od B d:Nat) (T0:S.Two) (C:S.Con) (nw:List (ByteArray × Int)) (key:ByteArray) (R:List Rec) (U:List S.Vs) (tn tb ti:Value) (wr:World):Prop:=
 ∃ (k:Nat) (newer:ByteArray) (based:Bool),tn=.string newer∧tb=.bool based∧ti=.int .i64 (k:Int)∧k≤R.length∧∃ tg1 T1 bs1 ol1,Kept (Wo ow od) tg w tg1 wr∧AddSt wr tg1 ow od B d T0 T1 bs1 ol1 C nw key R U k newer based
def AddEnd (w:World) (tg:Tags) (ow od B d:Nat) (T0:S.Two) (C V:S.Con) (nw:List (ByteArray × Int)) (key:ByteArray) (R:List Rec) (U:List S.Vs) (e:Ending) (w':World):Prop:=
 ∃ (c:Nat) (tg':Tags),e=.returned (.int .i64 (c:Int))∧Kept (Wo ow od) tg w tg' w'∧((c=0∧∃ T' bs' ol',Wrt w' tg' ow od B d T0 T' bs' ol' (C.put key U) (match R.head? with | none=>nw | some r=>nw++[(key,r.stamp)])∧∀ x∈(bs'++[ol']).flatten,S.kless x.key key∨x.key=key)∨(c≠0∧Stopped w' tg' od d T0 V c))
theorem AddSt.all {w:World} {tg:Tags} {ow od B d:Nat} {T0 T:S.Two} {bs:List (List Rec)} {ol:List Rec} {C:S.Con} {nw:List (ByteArray × Int)} {key:ByteArray} {R:List Rec} {U:List S.Vs} {newer:ByteArray} {based:Bool} (h:AddSt w tg ow od B d T0 T bs ol C nw key R U R.length newer based) (hl:U.length=R.length):Wrt w tg ow od B d T0 T bs ol (C.put key U) nw:=by
 have:=h.wrt
 rw [←hl,List.take_length] at this
 exact this
theorem take_sub {C V:S.Con} {key:ByteArray} {U:List S.Vs} (hV:∀ k v,v∈(C.put key U) k→v∈V k) (n:Nat):∀ k v,v∈(C.put key (U.take n)) k→v∈V k:=fun k v hv=>hV k v (by
 unfold S.Con.put at hv ⊢
 split at hv
 ·rename_i e;rw [if_pos e];exact List.mem_of_mem_take hv
 ·rename_i e;rw [if_neg e];exact hv)
theorem insAt_last {α:Type} (l:List α) (x:α):insAt l l.length x=l++[x]:=by simp [insAt]
theorem wputNewest {w:World} {tg:Tags} {ow B d:Nat} {ol:List Rec} {ixs:List ByteArray} {nw:List (ByteArray × Int)} (h:WriAt w tg ow B d ol ixs nw) (hnu:S.Rising (nw.map (·.1))) (key:ByteArray) (hnl:∀ y∈nw.map (·.1),S.kless y key) (hnf:nw.length≤1048575) (st:Int) :
  Calls Tryz.prog 65 #[.pointer (some ⟨B,4,none⟩),.string key,.int .i64 st] w fun e w'=>e=.returned (.tuple #[])∧∃ tg',(∀ k,k<w.heap.size→tg' k=tg k)∧WriAt w' tg' ow B d ol ixs (nw++[(key,st)])∧Only ow tg w w':=by
 have hp:S.hasK (nw.map (·.1)) key=false:=by
  cases hh:S.hasK (nw.map (·.1)) key with
  | false=>rfl
  | true=>exact absurd (hnl _ (S.hasK_iff.1 hh)) (S.kless_irrefl key)
 refine (kPutI tg ow B 4 1 (nw.map (·.1)) (intVals (nw.map (·.2))) hnu (by simp;omega) key st hp hnl (intVals_one _) w h.nw ⟨by rw [h.tb];simp,by rw [h.tb];simp⟩ ⟨h.fr 4,h.fr 5⟩).mono ?_
 rintro e w' ⟨rfl,hN⟩
 refine ⟨rfl,h.turnNewest ?_⟩
 have e1:insAt (nw.map (·.1)) (S.lowK (nw.map (·.1)) key) key=(nw++[(key,st)]).map (·.1):=by
  rw [S.lowK_end hnl,insAt_last];simp
 have e2:insAt (intVals (nw.map (·.2))) (S.lowK (nw.map (·.1)) key) (.int .i64 st)=intVals ((nw++[(key,st)]).map (·.2)):=by
  have hle:(nw.map (·.1)).length=(intVals (nw.map (·.2))).length:=by simp [intVals]
  rw [S.lowK_end hnl,hle,insAt_last];simp [intVals]
 rw [e1,e2] at hN
 exact hN
theorem wadd_any {w:World} {tg:Tags} {ow od B d:Nat} {T0 T:S.Two} {bs:List (List Rec)} {ol:List Rec} {C V:S.Con} {nw:List (ByteArray × Int)} (h:Wrt w tg ow od B d T0 T bs ol C nw) (key:ByteArray) (R:List Rec) (U:List S.Vs) (hl:R.length≤140737488351232) (hall:∀ x∈R,x.key=key) (hfit:∀ x∈R,x.fits=true) (hfall:R.Pairwise fun a b=>b.stamp<a.stamp) (hT:S.Tells theAp R U) (hC:C key=[]) (hup:∀ x∈(bs++[ol]).flatten,S.kless x.key key) (hV:∀ k v,v∈(C.put key U) k→v∈V k)
  (hnu:S.Rising (nw.map (·.1))) (hnl:∀ y∈nw.map (·.1),S.kless y key) (hnf:nw.length≤1048575) (ao:Option Addr) (cap:Nat) (hrow:Rcs w ao R) (htag:∀ a,ao=some a→R≠[]→¬Wo ow od (tg a.block).1) :
  Calls Tryz.prog 58 #[.pointer (some ⟨B,0,none⟩),.slice ao R.length cap] w fun e w'=>AddEnd w tg ow od B d T0 C V nw key R U e w':=by
 obtain ⟨fe,hfe⟩:=hT ⟨#[]⟩
 have HR:Hid (Rcs w ao R):=hrow
 have HT:Hid (∀ a,ao=some a→R≠[]→¬Wo ow od (tg a.block).1):=htag
 have HU:Hid (S.run theAp ⟨#[]⟩ R=some (U,fe)):=hfe
 have HUl:Hid (U.length=R.length):=hT.length
 have H1:Hid (∀ x∈R,x.key=key):=hall
 have H2:Hid (∀ x∈R,x.fits=true):=hfit
 have H3:Hid (R.Pairwise fun a b=>b.stamp<a.stamp):=hfall
 have H4:Hid (∀ k v,v∈(C.put key U) k→v∈V k):=hV
 have H5:Hid (S.Rising (nw.map (·.1))∧(∀ y∈nw.map (·.1),S.kless y key)∧nw.length≤1048575):=⟨hnu,hnl,hnf⟩
 have H0:Hid (AddSt w tg ow od B d T0 T bs ol C nw key R U 0 ⟨#[]⟩ false):=by
  refine ⟨?_,?_,by simp [S.run],Nat.zero_le _,fun x hx j r _ hr=>Or.inl (by rw [hall r (List.mem_of_getElem? hr)];exact hup x hx),fun x hx=>Or.inl (hup x hx)⟩
  ·have e:C.put key (U.take 0)=C:=by rw [List.take_zero,←hC];exact S.Con.put_self C key
   rw [e]
   exact h
  ·exact S.Based.none _ (fun r hr=>S.kless_ne (hup r (by simp;exact Or.inr hr)))
 clear h hrow htag hfe hT hall hfit hfall hV hnu hnl hnf hC hup
 go_enter Tryz.func58,Tryz.ntmps58
 go_wp2_with fail
 go_loopw [5,6,14] (fun tn tb ti wr=>AddRel w tg ow od B d T0 C nw key R U tn tb ti wr) (fun _ _ ti _=>R.length-(intOf ti).toNat)
 case atStart=>exact ⟨0,⟨#[]⟩,false,rfl,rfl,rfl,Nat.zero_le _,tg,T,bs,ol,Kept.refl _ _ _,H0.out⟩
 case round =>
  obtain ⟨k,newer,based,rfl,rfl,rfl,hk,tg1,T1,bs1,ol1,hK,hA⟩:=hrel
  have hRr:=HR.out.keepT hK HT.out
  by_cases hlt:k<R.length
  ·obtain ⟨b,off,hao,hbw,hRA⟩:=hRr.at hlt
   obtain ⟨r,hr⟩:∃ r,R[k]?=some r:=⟨_,List.getElem?_eq_getElem hlt⟩
   obtain ⟨c0,c1,c2,c3⟩:=hRA k r hr
   obtain ⟨s,hv,hUk,hrun⟩:=S.run_at HU.out hr hA.run
   have hft:=H2.out r (List.mem_of_getElem? hr)
   have hft2:=hft
   simp only [Rec.fits,decide_eq_true_eq] at hft2
   have hkd:r.kind=0∨r.kind=1∨r.kind=2:=by omega
   obtain ⟨hs4,hb4⟩:=val_small hA.small hkd hv
   have hltI:(k:Int)<(R.length:Int):=by omega
   have VA:Hid _:=fun W=>value_yes r newer s (by omega) (by have:=hA.small;omega) hkd hv W
   have WH:Hid _:=fun W=>whole_any r s hkd W
   have CH:Hid _:=fun W=>changed_any r newer hkd hA.small (fun _=>hb4) W
   have HWW:Hid (S.Wrote theAp false newer r s (wholeOf r s)):=S.wrote_whole hft hkd hv
   have HWC:Hid (∀ r',ChangedTo r newer r'→S.Wrote theAp true newer r s r'):=fun r' hc=>S.wrote_changed hft hv hc
   unfold Rec.val at VA WH CH
   obtain ⟨X,hX⟩:∃ X,X=ow+od+1:=⟨_,rfl⟩
   obtain ⟨tga,htga⟩:∃ tga,tga=tg1.more wr.heap.size X 0:=⟨_,rfl⟩
   have hta:∀ i,i<wr.heap.size→tga i=tg1 i:=fun i hi=>by rw [htga];exact Tags.more_old hi
   have htL:tga wr.heap.size=(X,0):=by rw [htga];exact Tags.more_new (Nat.le_refl _)
   have hXo:¬Wo ow od X:=fun e=>by rcases e with e | e<;>omega
   clear htga
   have qa:Q wr (wr.alloc (.cells #[.string r.key,.int .i64 r.stamp,.int .i64 r.kind,.string r.body] 62)):=(Q.refl wr).alloc _ _
   have hA1:=hA.keep qa hta
   have hKa:Kept (Wo ow od) tg w tga (wr.alloc (.cells #[.string r.key,.int .i64 r.stamp,.int .i64 r.kind,.string r.body] 62)):=hK.trans (Kept.of_q qa hta)
   have IF:Hid _:=fun (_:Unit)=>isFull_any hA1.wrt.wri
   have hvn:=varN_new wr [.string r.key,.int .i64 r.stamp,.int .i64 r.kind,.string r.body] 62
   obtain ⟨wa,hwa⟩:∃ wa,wa=wr.alloc (.cells #[.string r.key,.int .i64 r.stamp,.int .i64 r.kind,.string r.body] 62):=⟨_,rfl⟩
   rw [←hwa] at hA1 hKa IF hvn
   have hLa:wr.heap.size<wa.heap.size:=by rw [hwa];simp
   have HS1:Hid (AddSt wa tga ow od B d T0 T1 bs1 ol1 C nw key R U k newer based):=hA1
   have HK1:Hid (Kept (Wo ow od) tg w tga wa):=hKa
   have HVN:Hid (VarN wa wr.heap.size [.string r.key,.int .i64 r.stamp,.int .i64 r.kind,.string r.body]):=hvn
   have HM:Hid (R[k]?=some r∧S.run theAp ⟨#[]⟩ (R.take (k+1))=some (U.take (k+1),s)∧U[k]?=some (S.verOf r s)∧s.size≤4096):=⟨hr,hrun,hUk,hs4⟩
   have HFT:Hid (r.fits=true):=hft
   subst hao
   by_cases hfull:ol1.length=64∨8192≤openSize ol1
   ·rw [decide_eq_true hfull] at IF
    clear hA hA1 hKa hvn hK hRA hr hv hUk hrun hft hft2 hkd hs4 hb4 qa hRr hfull
    go_wp2_with fail
    rw [←hwa]
    refine (IF.out ()).mono ?_
    rintro e w1 ⟨rfl,q1⟩
    have EB:Hid _:=fun (_:Unit)=>endBlock_w ((HS1.out.keep q1 (fun _ _=>rfl)).wrt) (take_sub H4.out k)
    clear IF
    go_wp2_with fail
    refine (EB.out ()).mono ?_
    rintro e w2 ⟨c,tg2,rfl,hK2,hcase⟩
    have hKw2:Hid (Kept (Wo ow od) tg w tg2 w2):=(HK1.out.trans (Kept.of_q q1 (fun _ _=>rfl))).trans hK2
    have hLw1:wr.heap.size<w1.heap.size:=Nat.lt_of_lt_of_le hLa q1.below.size
    have hvn2:VarN w2 wr.heap.size [.string r.key,.int .i64 r.stamp,.int .i64 r.kind,.string r.body]:=(HVN.out.kept q1).of_block (hK2.block _ hLw1 (by rw [htL];exact hXo)) hK2.size
    have htL2:Hid ((tg2 wr.heap.size).1≠ow):=by rw [hK2.tags _ hLw1,htL];exact fun e=>hXo (Or.inl e)
    clear EB q1 hK2 hwa
    by_cases hc0:c=0
    ·subst hc0
     obtain ⟨T2,hW2⟩:∃ T2,Wrt w2 tg2 ow od B d T0 T2 (ended bs1 ol1) [] (C.put key (U.take k)) nw:=by
      rcases hcase with ⟨_,h⟩|⟨h,_⟩
      ·exact h
      ·exact absurd rfl h
     have HS:Hid (AddSt w2 tg2 ow od B d T0 T2 (ended bs1 ol1) [] C nw key R U k newer false):=HS1.out.cut hW2
     have HLN:Hid (([]:List Rec).length<64):=Nat.zero_lt_succ _
     have m0:=hvn2.cell 0 rfl
     have m1:=hvn2.cell 1 rfl
     have m2:=hvn2.cell 2 rfl
     have m3:=hvn2.cell 3 rfl
     have HVW:Hid (VarN w2 wr.heap.size [.string r.key,.int .i64 r.stamp,.int .i64 r.kind,.string r.body]):=hvn2
     clear hvn2 hcase hW2 HS1
     go_wp2_with fail
     refine (VA.out _).mono ?_
     rintro e wv ⟨rfl,qv⟩
     have n0:=kept_cell m0 qv
     have n1:=kept_cell m1 qv
     have n2:=kept_cell m2 qv
     have n3:=kept_cell m3 qv
     clear m0 m1 m2 m3 VA
     go_wp2_with fail
     refine (WH.out _).mono ?_
     rintro e wx ⟨rfl,qx⟩
     obtain ⟨r2,hr2⟩:∃ r2,r2=wholeOf r s:=⟨_,rfl⟩
     have hWr:Hid (S.Wrote theAp false newer r s r2):=by rw [hr2];exact HWW.out
     rw [←hr2]
     clear hr2 WH CH HWC HWW
     have hA2:=HS.out.keep (qv.trans qx) (fun _ _=>rfl)
     have hK2:=hKw2.out.trans (Kept.of_q (qv.trans qx) (fun _ _=>rfl))
     have hV2:=(HVW.out.kept qv).kept qx
     have PU:Hid _:=fun (_:Unit)=>wput_any hA2.wrt.wri r2 (Nat.le_of_lt HLN.out) (put_room hA2.wrt.m) (put_rec hWr.out.fits)
     have HA2:Hid _:=And.intro hA2 (And.intro hK2 hV2)
     clear hA2 hK2 hV2 n0 n1 n2 n3 qv qx HS hKw2 HVW
     go_wp2_with fail
     refine (PU.out ()).mono ?_
     rintro e wp ⟨rfl,tgp,htp,hWp,hop⟩
     obtain ⟨hA2,hK2,hV2⟩:=HA2.out
     obtain ⟨hr,hrun,hUk,hs4⟩:=HM.out
     have hVp:=hV2.of_block (hop.block _ hV2.1 htL2.out) hop.size
     have HN:Hid (∃ tg1 T1 bs1 ol1,Kept (Wo ow od) tg w tg1 wp∧AddSt wp tg1 ow od B d T0 T1 bs1 ol1 C nw key R U (k+1) s (false || decide (r.kind≠2))):=⟨tgp,_,_,_,hK2.trans (Kept.of_only hop htp (Or.inl rfl)),hA2.next hr H1.out H3.out hrun hUk hs4 hWr.out HLN.out hWp htp hop⟩
     have p2:=hVp.cell 2 rfl
     clear PU hA2 hK2 hV2 hr hrun hUk hs4 hVp hWp hop htp HA2
     go_upto_region 17 with fail
     go_quiet (fail)
     go_wp2_with fail
     go_roundw
     case rel =>
      obtain ⟨tg1',T1',bs1',ol1',g1,g2⟩:=HN.out
      have qd:Q wp (wp.drewN nq):=(Q.refl _).drewN nq
      exact ⟨k+1,s,(false || decide (r.kind≠2)),rfl,by simp only [Bool.false_or];congr 1;by_cases hg:r.kind=2<;>simp [hg],by go_num,by omega,tg1',T1',bs1',ol1',g1.trans (Kept.of_q qd (fun _ _=>rfl)),g2.keep qd (fun _ _=>rfl)⟩
     case measure=>simp [intOf];omega
    ·have hcI:¬(c:Int)=0:=by omega
     have hcb:((c:Int) != 0)=true:=by simp [hc0]
     have HST:Hid (Stopped w2 tg2 od d T0 V c):=by
      rcases hcase with ⟨h,_⟩|⟨_,h⟩
      ·exact absurd h hc0
      ·exact h
     have HC0:Hid (c≠0):=hc0
     clear hcase hc0 hvn2
     go_wp2_with fail
     go_ret
     exact ⟨c,tg2,rfl,hKw2.out,Or.inr ⟨HC0.out,HST.out⟩⟩
   ·rw [decide_eq_false hfull] at IF
    have HLN:Hid (ol1.length<64):=by have:=hA.wrt.m.few;have:¬ol1.length=64:=fun e=>hfull (Or.inl e);show ol1.length<64;omega
    clear hA hA1 hKa hvn hK hRA hr hv hUk hrun hft hft2 hkd hs4 hb4 qa hRr hfull
    cases hbb:based with
    | false =>
     subst hbb
     go_wp2_with fail
     rw [←hwa]
     refine (IF.out ()).mono ?_
     rintro e w2 ⟨rfl,q1⟩
     have HS:Hid (AddSt w2 tga ow od B d T0 T1 bs1 ol1 C nw key R U k newer false):=HS1.out.keep q1 (fun _ _=>rfl)
     have hKw2:Hid (Kept (Wo ow od) tg w tga w2):=HK1.out.trans (Kept.of_q q1 (fun _ _=>rfl))
     have hvn2:=HVN.out.kept q1
     have htL2:Hid ((tga wr.heap.size).1≠ow):=by rw [htL];exact fun e=>hXo (Or.inl e)
     have m0:=hvn2.cell 0 rfl
     have m1:=hvn2.cell 1 rfl
     have m2:=hvn2.cell 2 rfl
     have m3:=hvn2.cell 3 rfl
     have HVW:Hid (VarN w2 wr.heap.size [.string r.key,.int .i64 r.stamp,.int .i64 r.kind,.string r.body]):=hvn2
     clear hvn2 HS1 IF q1 hwa
     go_wp2_with fail
     refine (VA.out _).mono ?_
     rintro e wv ⟨rfl,qv⟩
     have n0:=kept_cell m0 qv
     have n1:=kept_cell m1 qv
     have n2:=kept_cell m2 qv
     have n3:=kept_cell m3 qv
     clear m0 m1 m2 m3 VA
     go_wp2_with fail
     refine (WH.out _).mono ?_
     rintro e wx ⟨rfl,qx⟩
     obtain ⟨r2,hr2⟩:∃ r2,r2=wholeOf r s:=⟨_,rfl⟩
     have hWr:Hid (S.Wrote theAp false newer r s r2):=by rw [hr2];exact HWW.out
     rw [←hr2]
     clear hr2 WH CH HWC HWW
     have hA2:=HS.out.keep (qv.trans qx) (fun _ _=>rfl)
     have hK2:=hKw2.out.trans (Kept.of_q (qv.trans qx) (fun _ _=>rfl))
     have hV2:=(HVW.out.kept qv).kept qx
     have PU:Hid _:=fun (_:Unit)=>wput_any hA2.wrt.wri r2 (Nat.le_of_lt HLN.out) (put_room hA2.wrt.m) (put_rec hWr.out.fits)
     have HA2:Hid _:=And.intro hA2 (And.intro hK2 hV2)
     clear hA2 hK2 hV2 n0 n1 n2 n3 qv qx HS hKw2 HVW
     go_wp2_with fail
     refine (PU.out ()).mono ?_
     rintro e wp ⟨rfl,tgp,htp,hWp,hop⟩
     obtain ⟨hA2,hK2,hV2⟩:=HA2.out
     obtain ⟨hr,hrun,hUk,hs4⟩:=HM.out
     have hVp:=hV2.of_block (hop.block _ hV2.1 htL2.out) hop.size
     have HN:Hid (∃ tg1 T1 bs1 ol1,Kept (Wo ow od) tg w tg1 wp∧AddSt wp tg1 ow od B d T0 T1 bs1 ol1 C nw key R U (k+1) s (false || decide (r.kind≠2))):=⟨tgp,_,_,_,hK2.trans (Kept.of_only hop htp (Or.inl rfl)),hA2.next hr H1.out H3.out hrun hUk hs4 hWr.out HLN.out hWp htp hop⟩
     have p2:=hVp.cell 2 rfl
     clear PU hA2 hK2 hV2 hr hrun hUk hs4 hVp hWp hop htp HA2
     go_upto_region 17 with fail
     go_quiet (fail)
     go_wp2_with fail
     go_roundw
     case rel =>
      obtain ⟨tg1',T1',bs1',ol1',g1,g2⟩:=HN.out
      have qd:Q wp (wp.drewN nq):=(Q.refl _).drewN nq
      exact ⟨k+1,s,(false || decide (r.kind≠2)),rfl,by simp only [Bool.false_or];congr 1;by_cases hg:r.kind=2<;>simp [hg],by go_num,by omega,tg1',T1',bs1',ol1',g1.trans (Kept.of_q qd (fun _ _=>rfl)),g2.keep qd (fun _ _=>rfl)⟩
     case measure=>simp [intOf];omega
    | true =>
     subst hbb
     go_wp2_with fail
     rw [←hwa]
     refine (IF.out ()).mono ?_
     rintro e w2 ⟨rfl,q1⟩
     have HS:Hid (AddSt w2 tga ow od B d T0 T1 bs1 ol1 C nw key R U k newer true):=HS1.out.keep q1 (fun _ _=>rfl)
     have hKw2:Hid (Kept (Wo ow od) tg w tga w2):=HK1.out.trans (Kept.of_q q1 (fun _ _=>rfl))
     have hvn2:=HVN.out.kept q1
     have htL2:Hid ((tga wr.heap.size).1≠ow):=by rw [htL];exact fun e=>hXo (Or.inl e)
     have m0:=hvn2.cell 0 rfl
     have m1:=hvn2.cell 1 rfl
     have m2:=hvn2.cell 2 rfl
     have m3:=hvn2.cell 3 rfl
     have HVW:Hid (VarN w2 wr.heap.size [.string r.key,.int .i64 r.stamp,.int .i64 r.kind,.string r.body]):=hvn2
     clear hvn2 HS1 IF q1 hwa
     go_wp2_with fail
     refine (VA.out _).mono ?_
     rintro e wv ⟨rfl,qv⟩
     have n0:=kept_cell m0 qv
     have n1:=kept_cell m1 qv
     have n2:=kept_cell m2 qv
     have n3:=kept_cell m3 qv
     clear m0 m1 m2 m3 VA
     go_wp2_with fail
     refine (CH.out _).mono ?_
     rintro e wx ⟨⟨r2,rfl,hch⟩,qx⟩
     have hWr:Hid (S.Wrote theAp true newer r s r2):=HWC.out r2 hch
     clear hch WH CH HWC HWW
     have hA2:=HS.out.keep (qv.trans qx) (fun _ _=>rfl)
     have hK2:=hKw2.out.trans (Kept.of_q (qv.trans qx) (fun _ _=>rfl))
     have hV2:=(HVW.out.kept qv).kept qx
     have PU:Hid _:=fun (_:Unit)=>wput_any hA2.wrt.wri r2 (Nat.le_of_lt HLN.out) (put_room hA2.wrt.m) (put_rec hWr.out.fits)
     have HA2:Hid _:=And.intro hA2 (And.intro hK2 hV2)
     clear hA2 hK2 hV2 n0 n1 n2 n3 qv qx HS hKw2 HVW
     go_wp2_with fail
     refine (PU.out ()).mono ?_
     rintro e wp ⟨rfl,tgp,htp,hWp,hop⟩
     obtain ⟨hA2,hK2,hV2⟩:=HA2.out
     obtain ⟨hr,hrun,hUk,hs4⟩:=HM.out
     have hVp:=hV2.of_block (hop.block _ hV2.1 htL2.out) hop.size
     have HN:Hid (∃ tg1 T1 bs1 ol1,Kept (Wo ow od) tg w tg1 wp∧AddSt wp tg1 ow od B d T0 T1 bs1 ol1 C nw key R U (k+1) s (true || decide (r.kind≠2))):=⟨tgp,_,_,_,hK2.trans (Kept.of_only hop htp (Or.inl rfl)),hA2.next hr H1.out H3.out hrun hUk hs4 hWr.out HLN.out hWp htp hop⟩
     have p2:=hVp.cell 2 rfl
     clear PU hA2 hK2 hV2 hr hrun hUk hs4 hVp hWp hop htp HA2
     go_upto_region 17 with fail
     go_quiet (fail)
     go_wp2_with fail
     go_roundw
     case rel =>
      obtain ⟨tg1',T1',bs1',ol1',g1,g2⟩:=HN.out
      have qd:Q wp (wp.drewN nq):=(Q.refl _).drewN nq
      exact ⟨k+1,s,(true || decide (r.kind≠2)),rfl,by simp,by go_num,by omega,tg1',T1',bs1',ol1',g1.trans (Kept.of_q qd (fun _ _=>rfl)),g2.keep qd (fun _ _=>rfl)⟩
     case measure=>simp [intOf];omega
  ·obtain rfl:k=R.length:=by omega
   have HW:Hid _:=hA.all HUl.out
   have HKE:Hid (∀ x∈(bs1++[ol1]).flatten,S.kless x.key key∨x.key=key):=hA.keys
   have HKK:Hid (Kept (Wo ow od) tg w tg1 wr):=hK
   have HRR:Hid (Rcs wr ao R):=hRr
   clear hA hK hRr
   cases R with
   | nil =>
    go_wp2_with fail
    go_ret
    exact ⟨0,tg1,rfl,HKK.out,Or.inl ⟨rfl,T1,bs1,ol1,HW.out,HKE.out⟩⟩
   | cons r R' =>
    obtain ⟨b,off,hao,hbw,hRA⟩:=HRR.out.at (k:=0) (by simp)
    obtain ⟨c0,c1,_,_⟩:=hRA 0 r rfl
    have hkey:r.key=key:=H1.out r (List.mem_cons_self ..)
    rw [hkey] at c0
    have hks:key.size≤64:=by have:=H2.out r (List.mem_cons_self ..);rw [←hkey];simp only [Rec.fits,decide_eq_true_eq] at this;omega
    simp only [Nat.zero_mul,Nat.add_zero] at c0 c1
    obtain ⟨st,hst⟩:∃ st,r.stamp=st:=⟨_,rfl⟩
    rw [hst] at c1
    have htb:¬Wo ow od (tg1 b).1:=by
     have h1:=HT.out _ hao (by simp)
     have h2:=HR.out
     rcases h2 with h2|⟨b2,o2,h3,h4,_⟩
     ·cases h2
     ·rw [hao] at h3
      injection h3 with h3
      injection h3 with h3 h5
      subst h3
      rw [HKK.out.tags _ h4]
      exact h1
    have CL:Hid _:=fun (W:World)=>clone_any key W (by omega)
    have PN:Hid (∀ W,Q wr W→Calls Tryz.prog 65 #[.pointer (some ⟨B,4,none⟩),.string key,.int .i64 st] W fun e w'=>e=.returned (.tuple #[])∧∃ tg',(∀ k,k<W.heap.size→tg' k=tg1 k)∧WriAt w' tg' ow B d ol1 (S.ixsOf bs1) (nw++[(key,st)])∧Only ow tg1 W w'):=fun W q=>wputNewest (HW.out.wri.kept q) H5.out.1 key H5.out.2.1 H5.out.2.2 st
    have HTB:Hid (¬Wo ow od (tg1 b).1):=htb
    have HST:Hid (r.stamp=st):=hst
    subst hao
    have hlenI:(0:Int)<((r::R').length:Int):=by simp
    clear hRA hkey hst htb HR HT HRR
    go_upto_region 20 with fail
    go_region_held3 (fun w'=>w'.cell? ⟨b,off,none⟩=some (.string key)∧w'.cell? ⟨b,off+1,none⟩=some (.int .i64 st))
     (first | exact ⟨c0,c1⟩ | exact hS4 | exact hS5)
     (first | (go_at_call 47;refine (CL.out _).mono ?_;rintro e w4 ⟨rfl,q4⟩;have q4':Q wr w4:=(Q.refl wr).drew.trans ⟨q4⟩;have hS4:w4.cell? ⟨b,off,none⟩=some (.string key)∧w4.cell? ⟨b,off+1,none⟩=some (.int .i64 st):=⟨kept_cell c0 q4',kept_cell c1 q4'⟩) | (go_at_call 65;refine (PN.out _ q4').mono ?_;rintro e w5 ⟨rfl,tg5,ht5,hW5,ho5⟩;have hS5:w5.cell? ⟨b,off,none⟩=some (.string key)∧w5.cell? ⟨b,off+1,none⟩=some (.int .i64 st):=⟨(World.cell?_of_block (a:=⟨b,off,none⟩) (ho5.block b (cell_lt hS4.1) (fun e=>HTB.out (Or.inl e)))).trans hS4.1,(World.cell?_of_block (a:=⟨b,off+1,none⟩) (ho5.block b (cell_lt hS4.1) (fun e=>HTB.out (Or.inl e)))).trans hS4.2⟩))
    all_goals
     have HE:Hid (AddEnd w tg ow od B d T0 C V nw key (r::R') U (.returned (.int .i64 0)) w5):=by
      have hWq:=HW.out.kept q4'
      have hG:=tab_lt hWq.tab
      obtain ⟨ids,ps,hd⟩:=hWq.disk
      refine ⟨0,tg5,rfl,(HKK.out.trans (Kept.of_q q4' (fun _ _=>rfl))).trans (Kept.of_only ho5 ht5 (Or.inl rfl)),Or.inl ⟨rfl,T1,bs1,ol1,?_,HKE.out⟩⟩
      simp only [List.head?_cons]
      rw [HST.out]
      exact ⟨hW5,⟨ids,ps,hd.only hWq.ne ht5 ho5⟩,hWq.fine,hWq.ne,tab_block hWq.tab (ho5.block _ hG hWq.tabo.1),by rw [ht5 _ hG];exact hWq.tabo,hWq.m,hWq.bld⟩
     clear PN CL ht5 hW5 ho5 hS5 hS4 q4 q4' c0 c1
     go_wp2_with fail
     go_ret
     exact HE.out
def EndEnd (w:World) (tg:Tags) (ow od B d:Nat) (T0:S.Two) (C V:S.Con) (nw:List (ByteArray × Int)) (wm:Int) (e:Ending) (w':World):Prop:=
 ∃ (c:Nat) (tg':Tags),e=.returned (.int .i64 (c:Int))∧Kept (Wo ow od) tg w tg' w'∧((c=0∧∃ (T':S.Two) (bs':List (List Rec)) (ids ps:List Nat),LDiskAt w' tg' od d T'.dsk ids ps∧T'.dsk.Fine∧T'.cap=T0.cap∧T'.a=some (S.fileText bs' wm,(S.fileText bs' wm).length)∧T'.b=none∧T'.dead=false∧(T0.fuse=0→T'.fuse=0)∧S.Fil theAp bs' C∧WriAt w' tg' ow B d [] (S.ixsOf bs') nw)∨(c≠0∧Stopped w' tg' od d T0 V c))
theorem wend_any {w:World} {tg:Tags} {ow od B d:Nat} {T0 T:S.Two} {bs:List (List Rec)} {ol:List Rec} {C V:S.Con} {nw:List (ByteArray × Int)} (h:Wrt w tg ow od B d T0 T bs ol C nw) (hV:∀ k v,v∈C k→v∈V k) (wm:Int) (hw1:-1≤wm) (hw2:wm≤1099511627776) :
  Calls Tryz.prog 60 #[.pointer (some ⟨B,0,none⟩),.int .i64 wm] w fun e w'=>EndEnd w tg ow od B d T0 C V nw wm e w':=by
 have EB:Hid _:=fun (_:Unit)=>endBlock_w h hV
 have HV:Hid (∀ k v,v∈C k→v∈V k):=hV
 clear h hV
 go_enter Tryz.func60,Tryz.ntmps60
 go_wp2_with fail
 refine (EB.out ()).mono ?_
 rintro e w1 ⟨c,tg1,rfl,hK1,hcase⟩
 have HK1:Hid (Kept (Wo ow od) tg w tg1 w1):=hK1
 clear EB hK1
 by_cases hc0:c=0
 ·subst hc0
  obtain ⟨T1,hW⟩:∃ T1,Wrt w1 tg1 ow od B d T0 T1 (ended bs ol) [] C nw:=by
   rcases hcase with ⟨_,h⟩|⟨h,_⟩
   ·exact h
   ·exact absurd rfl h
  obtain ⟨bs1,hbs⟩:∃ bs1,bs1=ended bs ol:=⟨_,rfl⟩
  rw [←hbs] at hW
  clear hbs hcase
  have hne:=hW.ne
  have hfil:=hW.m.fil
  obtain ⟨bo,bcap,b1,b2,b3⟩:=hW.wri.c3
  have c0:=hW.wri.c0
  have htot:=hW.total
  have hlots:=S.blkOf_lots bs1
  have hidx:=S.idxOf_few hfil.ok
  have hlen:=S.ixsOf_length bs1
  have EN:Hid _:=fun (W:World) (q:Q w1 W)=>ending_any wm hw1 hw2 (S.ixsOf bs1) bo bcap W ((own_strs b2).2.kept q.below) (tab_kept hW.tab q) (by rw [S.cat_ixsOf];omega) (by omega)
  rw [S.cat_ixsOf] at EN
  obtain ⟨ids1,ps1,hd1⟩:=hW.disk
  obtain ⟨tx,htx⟩:∃ tx:ByteArray,tx=⟨(S.endOf (M.enc 7 (wm+1).toNat++S.idxOf bs1)).toArray⟩:=⟨_,rfl⟩
  rw [←htx] at EN
  have htd:tx.data.toList=S.endOf (S.idxText bs1 wm):=by rw [htx];rfl
  have DA:Hid _:=fun (W:World) (q:Q w1 W)=>diskAppend tg1 od d T1.dsk ids1 ps1 hW.fine freshN tx W (hd1.kept q)
  have hFi:=hW.fine.append freshN (S.endOf (S.idxText bs1 wm))
  rw [htd,S.Two.append_dsk] at DA
  rw [S.Two.append_dsk] at hFi
  simp only at DA hFi
  have hbld:=hW.bld.append (S.endOf (S.idxText bs1 wm))
  rw [S.dat_getD] at hbld
  obtain ⟨⟨T2,c2⟩,hT2⟩:∃ p,p=T1.append (S.endOf (S.idxText bs1 wm)):=⟨_,rfl⟩
  rw [←hT2] at DA hFi hbld
  simp only at DA hFi hbld
  have HW:Hid (Wrt w1 tg1 ow od B d T0 T1 bs1 [] C nw):=hW
  have HFI:Hid (T2.dsk.Fine):=hFi
  have HFL:Hid (S.Fil theAp bs1 C):=hfil
  have HBL:Hid (c2=0∧S.Bld T0 T2 (some (S.fileText bs1 wm))∨c2≠0∧((c2=9∧(∃ x,S.Bld T0 T2 x)∧S.Full T0 V)∨(c2=10∧S.Died T0 T2))):=by
   rcases hbld with ⟨g1,g2,_⟩|⟨g1,g2,g3⟩|⟨g1,g2⟩
   ·exact Or.inl ⟨g1,g2⟩
   ·refine Or.inr ⟨by omega,Or.inl ⟨g1,⟨S.dat bs1,by rw [g2];exact hW.bld⟩,hW.m.fullEnd hw2 HV.out (by omega) g3⟩⟩
   ·exact Or.inr ⟨by omega,Or.inr ⟨g1,g2⟩⟩
  have HRow:Hid (∀ g,(Value.slice bo (S.ixsOf bs1).length bcap).ownBlock=some g→tg1 g=(ow,4)):=b3
  clear hbld hFi hW hfil htot hlots hidx hlen hT2 htd htx hd1 b2 b3
  obtain ⟨n,hn⟩:∃ n,n=(S.ixsOf bs1).length:=⟨_,rfl⟩
  rw [←hn] at b1 EN
  clear hn HRow
  go_upto_region 3 with fail
  go_region_held3 (fun W=>W.cell? ⟨B,0,none⟩=some (.pointer (some ⟨d,0,none⟩))∧W.cell? ⟨B,3,none⟩=some (.slice bo n bcap))
   (first | exact ⟨c0,b1⟩ | exact hS4 | exact hS5)
   (first | (go_at_call 93;refine (EN.out _ ((Q.refl w1).drew)).mono ?_;rintro e w4 ⟨rfl,q4⟩;have q4':Q w1 w4:=(Q.refl w1).drew.trans q4;have hS4:w4.cell? ⟨B,0,none⟩=some (.pointer (some ⟨d,0,none⟩))∧w4.cell? ⟨B,3,none⟩=some (.slice bo n bcap):=⟨kept_cell c0 q4',kept_cell b1 q4'⟩) | (go_at_call 43;refine (DA.out _ q4').mono ?_;rintro e w5 ⟨rfl,tg5,ids5,ps5,ht5,hL5,ho5⟩;have hB5:w5.heap[B]?=w4.heap[B]?:=(ho5.block B (cell_lt hS4.1) (by rw [HW.out.wri.tb];exact hne));have hS5:w5.cell? ⟨B,0,none⟩=some (.pointer (some ⟨d,0,none⟩))∧w5.cell? ⟨B,3,none⟩=some (.slice bo n bcap):=⟨(World.cell?_of_block (a:=⟨B,0,none⟩) hB5).trans hS4.1,(World.cell?_of_block (a:=⟨B,3,none⟩) hB5).trans hS4.2⟩))
  have hW5:=(HW.out.wri.kept q4').keep ho5.size ht5 (fun k hk e=>ho5.block k hk (by rw [e];exact hne))
  have HA5:Hid (Kept (Wo ow od) tg w tg5 w5∧WriAt w5 tg5 ow B d [] (S.ixsOf bs1) nw∧LDiskAt w5 tg5 od d T2.dsk ids5 ps5):=⟨(HK1.out.trans (Kept.of_q q4' (fun _ _=>rfl))).trans (Kept.of_only ho5 ht5 (Or.inr rfl)),hW5,hL5⟩
  have x0:=hS5.1
  clear hS5 hS4 hB5 hW5 ho5 ht5 hL5 q4 q4' c0 b1 EN DA
  by_cases hc2:c2=0
  ·subst hc2
   have hb2:S.Bld T0 T2 (some (S.fileText bs1 wm)):=by
    rcases HBL.out with ⟨_,h⟩|⟨h,_⟩
    ·exact h
    ·exact absurd rfl h
   have hlast:=hb2.last
   have DS:Hid _:=fun (_:Unit)=>diskSync tg5 od d T2.dsk ids5 ps5 HFI.out freshN w5 HA5.out.2.2
   have hF3:=HFI.out.sync freshN
   rw [S.Two.syncF_dsk] at DS hF3
   simp only at DS hF3
   obtain ⟨⟨T3,c3⟩,hT3⟩:∃ p,p=T2.syncF:=⟨_,rfl⟩
   rw [←hT3] at DS hF3 hlast
   simp only at DS hF3 hlast
   have HF3:Hid T3.dsk.Fine:=hF3
   have HLA:Hid ((c3=10∧S.Died T0 T3)∨(c3=0∧((T3.move.2=10∧S.Died T0 T3.move.1)∨(T3.move.2=0∧T3.move.1.cap=T0.cap∧T3.move.1.a=some (S.fileText bs1 wm,(S.fileText bs1 wm).length)∧T3.move.1.b=none∧T3.move.1.dead=false∧(T0.fuse=0→T3.move.1.fuse=0))))):=hlast
   clear hlast hb2 hF3 hT3 HBL
   go_wp2_with fail
   refine (DS.out ()).mono ?_
   rintro e w6 ⟨rfl,tg6,ids6,ps6,ht6,hL6,ho6⟩
   obtain ⟨hK5,hW5,hL5⟩:=HA5.out
   have hW6:=hW5.keep ho6.size ht6 (fun k hk e=>ho6.block k hk (by rw [e];exact hne))
   have HA6:Hid (Kept (Wo ow od) tg w tg6 w6∧WriAt w6 tg6 ow B d [] (S.ixsOf bs1) nw∧LDiskAt w6 tg6 od d T3.dsk ids6 ps6):=⟨hK5.trans (Kept.of_only ho6 ht6 (Or.inr rfl)),hW6,hL6⟩
   have y0:=hW6.c0
   clear DS hK5 hW5 hL5 hW6 ho6 ht6 hL6 x0
   by_cases hc3:c3=0
   ·subst hc3
    have hla:=HLA.out
    have DR:Hid _:=fun (_:Unit)=>diskRename tg6 od d T3.dsk ids6 ps6 HF3.out freshN laidN w6 HA6.out.2.2
    have hF4:=HF3.out.rename freshN laidN
    rw [S.Two.move_dsk] at DR hF4
    simp only at DR hF4
    obtain ⟨⟨T4,c4⟩,hT4⟩:∃ p,p=T3.move:=⟨_,rfl⟩
    rw [←hT4] at DR hF4 hla
    simp only at DR hF4 hla
    have HF4:Hid T4.dsk.Fine:=hF4
    have HLB:Hid ((c4=10∧S.Died T0 T4)∨(c4=0∧T4.cap=T0.cap∧T4.a=some (S.fileText bs1 wm,(S.fileText bs1 wm).length)∧T4.b=none∧T4.dead=false∧(T0.fuse=0→T4.fuse=0))):=by
     rcases hla with ⟨h,_⟩|⟨_,h⟩
     ·omega
     ·exact h
    clear hla hF4 hT4 HLA
    go_wp2_with fail
    refine (DR.out ()).mono ?_
    rintro e w7 ⟨rfl,tg7,ids7,ps7,ht7,hL7,ho7⟩
    obtain ⟨hK6,hW6,hL6⟩:=HA6.out
    have hW7:=hW6.keep ho7.size ht7 (fun k hk e=>ho7.block k hk (by rw [e];exact hne))
    have HE7:Hid (EndEnd w tg ow od B d T0 C V nw wm (.returned (.int .i64 (c4:Int))) w7):=by
     refine ⟨c4,tg7,rfl,hK6.trans (Kept.of_only ho7 ht7 (Or.inr rfl)),?_⟩
     rcases HLB.out with ⟨h1,h2⟩|⟨h1,h2,h3,h4,h5,h6⟩
     ·exact Or.inr ⟨by omega,T4,ids7,ps7,hL7,HF4.out,Or.inr ⟨h1,h2⟩⟩
     ·exact Or.inl ⟨h1,T4,bs1,ids7,ps7,hL7,HF4.out,h2,h3,h4,h5,h6,HFL.out,hW7⟩
    clear DR hK6 hW6 hL6 hW7 ho7 ht7 hL7 y0
    go_wp2_with fail
    go_ret
    exact HE7.out
   ·have hcI:¬(c3:Int)=0:=by omega
    have hcb:((c3:Int) == 0)=false:=by simp [hc3]
    have HE6:Hid (EndEnd w tg ow od B d T0 C V nw wm (.returned (.int .i64 (c3:Int))) w6):=by
     refine ⟨c3,tg6,rfl,HA6.out.1,Or.inr ⟨hc3,T3,ids6,ps6,HA6.out.2.2,HF3.out,?_⟩⟩
     rcases HLA.out with h|⟨h,_⟩
     ·exact Or.inr h
     ·exact absurd h hc3
    clear hc3 HLA
    go_wp2_with fail
    go_ret
    exact HE6.out
  ·have hcI:¬(c2:Int)=0:=by omega
   have hcb:((c2:Int) == 0)=false:=by simp [hc2]
   have HE5:Hid (EndEnd w tg ow od B d T0 C V nw wm (.returned (.int .i64 (c2:Int))) w5):=by
    refine ⟨c2,tg5,rfl,HA5.out.1,Or.inr ⟨hc2,T2,ids5,ps5,HA5.out.2.2,HFI.out,?_⟩⟩
    rcases HBL.out with ⟨h,_⟩|⟨_,h⟩
    ·exact absurd h hc2
    ·exact h
   clear hc2 HBL
   go_wp2_with fail
   go_ret
   exact HE5.out
 ·have hcI:¬(c:Int)=0:=by omega
  have hcb:((c:Int) == 0)=false:=by simp [hc0]
  have HST:Hid (Stopped w1 tg1 od d T0 V c):=by
   rcases hcase with ⟨h,_⟩|⟨_,h⟩
   ·exact absurd h hc0
   ·exact h
  have HC0:Hid (c≠0):=hc0
  clear hcase hc0
  go_wp2_with fail
  go_ret
  exact ⟨c,tg1,rfl,HK1.out,Or.inr ⟨HC0.out,HST.out⟩⟩
end Go.Proofs.YtekdenkllipehabGreatDoor
namespace Go.Proofs.YtekdenkllipehabGreatDoor.S
open Go.RowKit
def layC (X:Sto) (C:Con) (kv:List Vs→Nat) (i:Nat):Con:=fun k=>if inK (X.keys.take i) k=true then (X.con C k).take (kv (X.con C k)) else []
theorem layC_zero (X:Sto) (C:Con) (kv:List Vs→Nat):layC X C kv 0=fun _=>[]:=by
 funext k
 simp [layC,inK]
theorem layC_at {X:Sto} {C:Con} {kv:List Vs→Nat} (hX:X.keys.Pairwise kless) {i:Nat} {k:ByteArray} (hk:X.keys[i]?=some k):layC X C kv i k=[]:=by
 have hn:k∉X.keys.take i:=fun hm=>by
  obtain ⟨hi,he⟩:=List.getElem?_eq_some_iff.1 hk
  obtain ⟨j,hj,hje⟩:=List.mem_iff_getElem.1 hm
  rw [List.length_take] at hj
  rw [List.getElem_take] at hje
  have:=List.pairwise_iff_getElem.1 hX j i (by omega) hi (by omega)
  rw [hje,he] at this
  exact kless_irrefl k this
 unfold layC
 rw [inK_no hn]
 simp
theorem layC_succ {X:Sto} {C:Con} {kv:List Vs→Nat} {i:Nat} {k:ByteArray} (hk:X.keys[i]?=some k):layC X C kv (i+1)=(layC X C kv i).put k ((X.con C k).take (kv (X.con C k))):=by
 funext x
 have e:X.keys.take (i+1)=X.keys.take i++[k]:=take_snoc hk
 unfold layC Con.put
 rw [e]
 by_cases hx:x=k
 ·subst hx
  rw [if_pos (inK_iff.2 (by simp)),if_pos rfl]
 ·rw [if_neg hx]
  have hiff:inK (X.keys.take i++[k]) x=inK (X.keys.take i) x:=by
   cases h:inK (X.keys.take i) x with
   | true=>exact inK_iff.2 (List.mem_append_left _ (inK_iff.1 h))
   | false=>exact inK_no (fun hm=>by
     rcases List.mem_append.1 hm with hm|hm
     ·rw [inK_iff.2 hm] at h;cases h
     ·exact hx (by simpa using hm))
  rw [hiff]
theorem layC_all {X:Sto} {bs:List (List Rec)} {C:Con} (h:X.Good bs C) (kv:List Vs→Nat) (k:ByteArray):layC X C kv X.keys.length k=(X.con C k).take (kv (X.con C k)):=by
 unfold layC
 rw [List.take_length]
 by_cases hk:k∈X.keys
 ·rw [if_pos (inK_iff.2 hk)]
 ·rw [inK_no hk]
  have:X.con C k=[]:=Classical.byContradiction fun e=>hk ((h.keys_all.2.1 k).2 e)
  simp [this]
theorem layC_sub {X:Sto} {C:Con} {kv:List Vs→Nat} (i:Nat):∀ k v,v∈layC X C kv i k→v∈layC X C kv X.keys.length k:=fun k v hv=>by
 unfold layC at hv ⊢
 rw [List.take_length]
 split at hv
 ·rename_i hi
  rw [if_pos (inK_iff.2 (List.mem_of_mem_take (inK_iff.1 hi)))]
  exact hv
 ·simp at hv
theorem layC_key {X:Sto} {C:Con} {kv:List Vs→Nat} {i:Nat} {k:ByteArray} (h:layC X C kv i k≠[]):k∈X.keys.take i:=by
 unfold layC at h
 split at h
 ·rename_i hi
  exact inK_iff.1 hi
 ·exact absurd rfl h
structure NwOk (nw:List (ByteArray × Int)) (D:Con):Prop where
 up:Rising (nw.map (·.1))
 is_:∀ k,lookK nw k=(D k).head?.map (·.stamp)
theorem NwOk.none:NwOk [] (fun _=>[]):=⟨List.Pairwise.nil,fun _=>rfl⟩
theorem NwOk.key {nw:List (ByteArray × Int)} {D:Con} (h:NwOk nw D) (y:ByteArray):y∈nw.map (·.1)↔D y≠[]:=by
 have h1:=h.is_ y
 constructor
 ·intro hm e
  rw [e] at h1
  have:=lookK_none h1
  rw [hasK_iff.2 hm] at this
  cases this
 ·intro hd
  cases hc:D y with
  | nil=>exact absurd hc hd
  | cons v l =>
   rw [hc] at h1
   exact hasK_iff.1 (lookK_some h.up h1).1
theorem lookK_append {α:Type} (A B:List (ByteArray × α)) (k:ByteArray):lookK (A++B) k=match lookK A k with | some x=>some x | Option.none=>lookK B k:=by
 unfold lookK
 rw [List.find?_append]
 cases A.find? (fun x=>decide (x.1=k))<;>rfl
theorem NwOk.step {nw:List (ByteArray × Int)} {D:Con} (h:NwOk nw D) {k:ByteArray} (hk:D k=[]) (hl:∀ y∈nw.map (·.1),kless y k) {R:List Rec} {U:List Vs} (hs:U.map (·.stamp)=R.map (·.stamp)):NwOk (match R.head? with | Option.none=>nw | some r=>nw++[(k,r.stamp)]) (D.put k U):=by
 cases R with
 | nil =>
  have hU:U=[]:=by simpa using hs
  subst hU
  have e:D.put k []=D:=by rw [←hk];exact Con.put_self D k
  rw [e]
  exact h
 | cons r R' =>
  cases U with
  | nil=>simp at hs
  | cons u U' =>
   simp only [List.map_cons,List.cons.injEq] at hs
   simp only [List.head?_cons]
   refine ⟨?_,fun x=>?_⟩
   ·unfold Rising
    rw [List.map_append,List.pairwise_append]
    refine ⟨h.up,by simp,fun a ha b hb=>?_⟩
    have:b=k:=by simpa using hb
    rw [this]
    exact hl a ha
   ·rw [lookK_append]
    unfold Con.put
    by_cases hx:x=k
    ·subst hx
     rw [if_pos rfl,h.is_ x,hk]
     simp [lookK,hs.1]
    ·rw [if_neg hx,h.is_ x]
     have hkx:¬k=x:=fun e=>hx e.symm
     cases D x with
     | nil=>simp [lookK,hkx]
     | cons v l=>simp
theorem enc_pos (f n:Nat):1≤(M.enc f n).length:=by
 cases f with
 | zero=>simp [M.enc]
 | succ f =>
  simp only [M.enc]
  split<;>simp
theorem textTo_five {rs:List Rec}:∀ {k:Nat} {t:List UInt8},textTo rs k=some t→5*k≤t.length
 | 0,_,_=>Nat.zero_le _
 | k+1,t,h=>by
  simp only [textTo] at h
  cases ht:textTo rs k with
  | none=>rw [ht] at h;simp at h
  | some t0 =>
   cases hr:rs[k]? with
   | none=>rw [ht,hr] at h;simp at h
   | some r =>
    rw [ht,hr] at h
    simp only at h
    split at h
    ·simp at h
    ·simp only [Option.some.injEq] at h
     subst h
     have h1:=textTo_five ht
     have e1:=enc_pos 7 (sharedAt rs k r)
     have e2:=enc_pos 7 (r.key.size-sharedAt rs k r)
     have e3:=enc_pos 7 r.stamp.toNat
     have e4:=enc_pos 7 r.body.size
     simp only [entry,List.length_append,List.length_singleton]
     omega
theorem blkOf_five:∀ {bs:List (List Rec)},(∀ b∈bs,OkB b)→5*bs.flatten.length≤(blkOf bs).length
 | [],_=>by simp
 | b::bs,h=>by
  have h1:=blkOf_five (bs:=bs) (fun x hx=>h x (by simp [hx]))
  have e1:blkOf (b::bs)=blkText b++blkOf bs:=by simp [blkOf]
  have hb:=h b (by simp)
  obtain ⟨t,ht⟩:=hb.text
  have h2:5*b.length≤(blkText b).length:=by
   unfold blkText
   rw [M.sealed_length,ht]
   unfold plainText at ht
   rw [if_neg (by have:=hb.few;omega)] at ht
   have:=textTo_five ht
   simp only [Option.getD_some]
   omega
  rw [e1,List.flatten_cons]
  simp only [List.length_append]
  omega
theorem sum_ones {α:Type}:∀ l:List α,(l.map fun _=>1).sum=l.length
 | []=>rfl
 | _::l=>by simp [sum_ones l];omega
theorem keys_few {ks:List ByteArray} (hs:ks.Pairwise kless) {F:List Rec} (h:∀ k∈ks,∃ r∈F,r.key=k):ks.length≤F.length:=by
 have:=sum_inj (fun _:ByteArray=>1) (fun _:Rec=>1) (fun k r=>r.key=k) ks F (hs.imp fun {a b} hab y h1 h2=>kless_ne hab (h1.symm.trans h2)) (fun k hk=>by
  obtain ⟨r,hr,he⟩:=h k hk
  exact ⟨r,hr,he,Nat.le_refl _⟩)
 rw [sum_ones,sum_ones] at this
 exact this
theorem Wri.recs {ap:Ap} {bs:List (List Rec)} {o:List Rec} {C:Con} (h:Wri ap bs o C) (hb:(blkOf bs).length≤1048576):(bs++[o]).flatten.length≤209779:=by
 have h1:∀ b∈bs,OkB b:=fun b hb=>by
  refine ⟨(h.blk b hb).1,(h.blk b hb).2,fun r hr=>h.fits r ?_,?_⟩
  ·rw [List.flatten_append]
   exact List.mem_append_left _ (List.mem_flatten.2 ⟨b,hb,hr⟩)
  ·have:=h.ord
   rw [List.flatten_append,List.pairwise_append] at this
   exact (List.pairwise_flatten.1 this.1).1 b hb
 have h2:=blkOf_five h1
 have h3:=h.few
 rw [List.flatten_append]
 simp only [List.length_append,List.flatten_cons,List.flatten_nil,List.append_nil]
 omega
theorem NwOk.few {ap:Ap} {bs:List (List Rec)} {o:List Rec} {C:Con} {nw:List (ByteArray × Int)} (h:NwOk nw C) (hW:Wri ap bs o C) (hb:(blkOf bs).length≤1048576):nw.length≤209779:=by
 have h1:=hW.recs hb
 have h2:(nw.map (·.1)).length≤(bs++[o]).flatten.length:=keys_few h.up (fun k hk=>by
  have hne:=(h.key k).1 hk
  refine Classical.byContradiction fun hno=>hne ?_
  have ht:=(hW.holds k).tells
  rw [ofKey_none (fun r hr e=>hno ⟨r,hr,e⟩)] at ht
  exact Tells.inj ht (Tells.nil ap))
 rw [List.length_map] at h2
 omega
def Sto.laid (X:Sto) (nw:List (ByteArray × Int)):Sto:={ X with newest:=nw,pend:=[],fl:=X.wm }
theorem Sto.Good.laid {X:Sto} {bs bs':List (List Rec)} {C D:Con} {nw:List (ByteArray × Int)} (h:X.Good bs C) (hF:Fil theAp bs' D) (hn:NwOk nw D) (hl:nw.length≤1048000):(X.laid nw).Good bs' D:=by
 refine ⟨⟨hn.up,List.Pairwise.nil,hl,Nat.zero_le _,fun kr hkr=>(by cases hkr)⟩,hF,hn.is_,fun kr hkr=>(by cases hkr),fun kr hkr=>(by cases hkr),?_,Int.le_refl _,h.top⟩
 have:=h.fl1
 have:=h.fl2
 show -1≤X.wm
 omega
theorem Sto.con_laid (X:Sto) (nw:List (ByteArray × Int)) (D:Con):(X.laid nw).con D=D:=by
 funext k
 rfl
theorem Sto.Good.hist_falls {X:Sto} {bs:List (List Rec)} {C:Con} (h:X.Good bs C) (k:ByteArray):(X.hist bs.flatten k).Pairwise fun a b=>b.stamp<a.stamp:=by
 have h1:=h.falling k
 have h2:=(h.tells k).stamps
 have h3:((X.con C k).map (·.stamp)).Pairwise fun a b=>b<a:=by rw [List.pairwise_map];exact h1
 rw [h2,List.pairwise_map] at h3
 exact h3
end Go.Proofs.YtekdenkllipehabGreatDoor.S
namespace Go.Proofs.YtekdenkllipehabGreatDoor
open Go.RowKit
theorem LDiskAt.retag {w:World} {tg tg':Tags} {o d:Nat} {D:M.Dsk} {ids ps:List Nat} (h:LDiskAt w tg o d D ids ps) (ht:∀ k,k<w.heap.size→(tg k).1=o→tg' k=tg k):LDiskAt w tg' o d D ids ps:=by
 obtain ⟨a1,k1,r1,r2,r3⟩:=h.map.keys
 obtain ⟨a2,k2,s1,s2,s3⟩:=h.map.vals
 refine ⟨⟨h.map.fr,(ht d h.map.top (by rw [h.map.td])).trans h.map.td,h.map.top,⟨a1,k1,r1,r2,fun g hg=>(ht g (r2.lt g hg).2 (by rw [r3 g hg])).trans (r3 g hg)⟩,⟨a2,k2,s1,s2,fun g hg=>(ht g (s2.lt g hg).2 (by rw [s3 g hg])).trans (s3 g hg)⟩,h.map.len⟩,h.c0,h.c3,h.c4,h.nodup,h.lenI,fun i p id f h1 h2 h3=>?_⟩
 obtain ⟨bo,bc,hF⟩:=h.file i p id f h1 h2 h3
 exact ⟨bo,bc,hF.c0,hF.c1,hF.fr,hF.own,(ht p hF.top (by rw [hF.tp])).trans hF.tp,fun g hg=>(ht g (hF.own.lt g hg).2 (by rw [hF.tb g hg])).trans (hF.tb g hg),hF.top⟩
theorem StoAt.retag {w:World} {tg tg':Tags} {o s d:Nat} {X:S.Sto} {ids ps:List Nat} (h:StoAt w tg o s d X ids ps) (ht:∀ k,k<w.heap.size→(tg k).1=o→tg' k=tg k):StoAt w tg' o s d X ids ps:=by
 refine ⟨h.top,(ht s h.top (by rw [h.ts])).trans h.ts,h.fr,h.c0,h.c1,h.c2,h.c3,h.nw.keep (Nat.le_refl _) (fun k hk e=>ht k hk (by rcases e with e | e<;>rw [e])) rfl rfl (fun _ _ _=>rfl),h.pd.keep (Nat.le_refl _) (fun k hk e=>ht k hk (by rcases e with e | e<;>rw [e])) rfl rfl (fun _ _ _=>rfl),h.nodup,h.lenI,fun i p id kr h1 h2 h3=>?_⟩
 obtain ⟨g1,g2,g3⟩:=h.inner i p id kr h1 h2 h3
 exact ⟨g1.keep (Nat.le_refl _) (fun k hk e=>ht k hk (by rcases e with e | e<;>rw [e])) rfl (fun _ _ _=>rfl),(ht p g1.top (by rw [g2])).trans g2,g3⟩
attribute [local go_sem] Oper.semAt_some
theorem histories_in (n s:Nat) (w:World) :
  CallsIn Fence.wide n Tryz.prog 57 #[.pointer (some ⟨s,0,none⟩)] w fun e w'=>e=.returned (.func (.func 84) #[] #[.pointer (some ⟨w.heap.size,0,none⟩)])∧w'=w.alloc (.cells #[.pointer (some ⟨s,0,none⟩)] 30):=by
 refine callsIn_of_wp Tryz.func57 rfl trivial ?_ rfl
 simp only [Tryz.ntmps57,List.size_toArray,List.length_cons,List.length_nil,Nat.reduceAdd,Nat.reduceSub,Array.replicate_succ,Array.replicate_zero,List.push_toArray,List.append_toArray,List.nil_append,List.cons_append]
 gi_wp2
 go_ret
 exact ⟨rfl,rfl⟩
end Go.Proofs.YtekdenkllipehabGreatDoor
namespace Go.Proofs.YtekdenkllipehabGreatDoor
open Go.RowKit
def Low (m:Nat) (tg:Tags) (w:World):Prop:=∀ k,k<w.heap.size→(tg k).1<m
structure Rdy (w:World) (tg:Tags) (o od m s d:Nat) (T0:S.Two) (X:S.Sto) (bs:List (List Rec)) (C:S.Con) (bad:Prop) (wmf:Int) (ids ps ids' ps':List Nat):Prop where
 sto:StoAt w tg o s d X ids ps
 disk:LDiskAt w tg od d T0.dsk ids' ps'
 fine:T0.dsk.Fine
 on:OnDisk bad T0.dsk bs wmf
 good:X.Good bs C
 tab:Tab w
 tabo:(tg 1).1≠o∧(tg 1).1≠od
 ne:o≠od
 nob:T0.b=none
 alive:T0.dead=false
 low:Low m tg w
 om:o<m
 odm:od<m
 few:bs.flatten.length≤1048576
theorem Rdy.histLen {w:World} {tg:Tags} {o od m s d:Nat} {T0:S.Two} {X:S.Sto} {bs:List (List Rec)} {C:S.Con} {bad:Prop} {wmf:Int} {ids ps ids' ps':List Nat} (h:Rdy w tg o od m s d T0 X bs C bad wmf ids ps ids' ps') (k:ByteArray):(X.hist bs.flatten k).length≤140737488351232:=by
 have h1:(S.ofKey k bs.flatten).length≤bs.flatten.length:=List.length_filter_le ..
 have h2:=h.few
 unfold S.Sto.hist
 rw [List.length_append,List.length_reverse]
 cases hl:S.lookK X.pend k with
 | none=>simp;omega
 | some rs =>
  have:=(h.good.ok.each _ ((S.lookK_iff h.good.ok.pdUp).1 hl)).2.2
  simp only [Option.getD_some]
  simp only at this
  omega
def LayBad (T0:S.Two) (X:S.Sto) (V:S.Con) (bad:Prop) (c:Nat) (X':S.Sto) (T':S.Two):Prop:=
 (c=10∧X'={ X with dead:=true }∧S.Died T0 T')∨(c=9∧X'=X∧S.Bld T0 T' none∧S.Full T0 V)∨(bad∧c=3∧X'=X∧S.Bld T0 T' none)
def LayGood (T0:S.Two) (X:S.Sto) (V:S.Con) (X':S.Sto) (T':S.Two):Prop:=
 ∃ bs' nw,X'=X.laid nw∧S.Fil theAp bs' V∧S.NwOk nw V∧nw.length≤209779∧T'.cap=T0.cap∧T'.a=some (S.fileText bs' X.wm,(S.fileText bs' X.wm).length)∧T'.b=none∧T'.dead=false∧(T0.fuse=0→T'.fuse=0)
def LayEnd (w:World) (tg:Tags) (o od m s d:Nat) (T0:S.Two) (X:S.Sto) (V:S.Con) (bad:Prop) (e:Ending) (w':World):Prop:=
 ∃ (c:Nat) (tg':Tags) (X':S.Sto) (T':S.Two) (ids ps ids' ps':List Nat),e=.returned (.int .i64 (c:Int))∧Kept (fun x=>x=o∨x=od) tg w tg' w'∧Low m tg' w'∧StoAt w' tg' o s d X' ids ps∧LDiskAt w' tg' od d T'.dsk ids' ps'∧T'.dsk.Fine∧((c=0∧LayGood T0 X V X' T')∨LayBad T0 X V bad c X' T')
def Stop3 (w:World) (tg:Tags) (od d:Nat) (T0:S.Two) (V:S.Con) (bad:Prop) (c:Nat):Prop:=
 ∃ T ids ps,LDiskAt w tg od d T.dsk ids ps∧T.dsk.Fine∧((c=9∧(∃ x,S.Bld T0 T x)∧S.Full T0 V)∨(c=10∧S.Died T0 T)∨(bad∧c=3∧∃ x,S.Bld T0 T x))
theorem Stopped.stop3 {w:World} {tg:Tags} {od d:Nat} {T0:S.Two} {V:S.Con} {c:Nat} (h:Stopped w tg od d T0 V c) (bad:Prop):Stop3 w tg od d T0 V bad c:=by
 obtain ⟨T,ids,ps,h1,h2,h3⟩:=h
 exact ⟨T,ids,ps,h1,h2,h3.elim Or.inl (fun h=>Or.inr (Or.inl h))⟩
theorem giveUp_s {w:World} {tg:Tags} {o od s d:Nat} {X:S.Sto} {T0:S.Two} {V:S.Con} {bad:Prop} {ids ps:List Nat} {c:Nat} (hS:StoAt w tg o s d X ids ps) (h3:Stop3 w tg od d T0 V bad c) (hne:o≠od) :
  Calls Tryz.prog 59 #[.pointer (some ⟨s,0,none⟩),.int .i64 (c:Int)] w fun e w'=>∃ (c1:Nat) (tg':Tags) (X':S.Sto) (T':S.Two) (ids' ps':List Nat),e=.returned (.int .i64 (c1:Int))∧Kept (fun x=>x=o∨x=od) tg w tg' w'∧StoAt w' tg' o s d X' ids ps∧LDiskAt w' tg' od d T'.dsk ids' ps'∧T'.dsk.Fine∧LayBad T0 X V bad c1 X' T':=by
 obtain ⟨T,idsT,psT,hd,hF,hc⟩:=h3
 refine (giveUp_any ⟨hS,hd,hF,hne⟩ (c:Int)).mono ?_
 rintro e w' ⟨e1,he1,rfl,tg',idsD,psD,hB,hK⟩
 rw [S.Two.drop_dsk] at he1 hB
 simp only at he1 hB
 have h7:S.thereCode 7=0:=rfl
 have h10:S.thereCode 10=10:=rfl
 have h00:S.thereCode 0=0:=rfl
 have hdead:T.drop.2=10→S.Died T0 T.drop.1→∃ (c1:Nat) (X':S.Sto) (T':S.Two),e1=(c1:Int)∧StoAt w' tg' o s d X' ids ps∧LDiskAt w' tg' od d T'.dsk idsD psD∧T'.dsk.Fine∧LayBad T0 X V bad c1 X' T':=fun g1 g2=>by
  rw [g1,h10,if_pos rfl] at he1
  subst he1
  refine ⟨10,{ X with dead:=true },T.drop.1,rfl,?_,hB.disk,hB.fine,Or.inl ⟨rfl,rfl,g2⟩⟩
  have:=hB.sto
  simpa using this
 have hlive:(T.drop.2=0∨T.drop.2=7)→S.Bld T0 T.drop.1 none→c≠10→((c=9∧S.Full T0 V)∨(bad∧c=3))→∃ (c1:Nat) (X':S.Sto) (T':S.Two),e1=(c1:Int)∧StoAt w' tg' o s d X' ids ps∧LDiskAt w' tg' od d T'.dsk idsD psD∧T'.dsk.Fine∧LayBad T0 X V bad c1 X' T':=fun g1 g2 g3 g4=>by
  have hz:S.thereCode T.drop.2=0:=by rcases g1 with g | g<;>rw [g]<;>assumption
  rw [hz,if_neg (by omega)] at he1
  subst he1
  refine ⟨c,X,T.drop.1,rfl,?_,hB.disk,hB.fine,?_⟩
  ·have:=hB.sto
   rw [if_neg (by omega)] at this
   exact this
  ·rcases g4 with ⟨g4,g5⟩|⟨g4,g5⟩
   ·exact Or.inr (Or.inl ⟨g4,rfl,g2,g5⟩)
   ·exact Or.inr (Or.inr ⟨g4,g5,rfl,g2⟩)
 have fin:∃ (c1:Nat) (X':S.Sto) (T':S.Two),e1=(c1:Int)∧StoAt w' tg' o s d X' ids ps∧LDiskAt w' tg' od d T'.dsk idsD psD∧T'.dsk.Fine∧LayBad T0 X V bad c1 X' T':=by
  rcases hc with ⟨g1,⟨x,g2⟩,g3⟩|⟨g1,g2⟩|⟨g0,g1,x,g2⟩
  ·rcases g2.gone with ⟨k1,k2⟩|⟨k1,k2⟩
   ·exact hdead k1 k2
   ·exact hlive k1 k2 (by omega) (Or.inl ⟨g1,g3⟩)
  ·have:=g2.drop
   refine hdead (by rw [this]) (by rw [this];exact g2)
  ·rcases g2.gone with ⟨k1,k2⟩|⟨k1,k2⟩
   ·exact hdead k1 k2
   ·exact hlive k1 k2 (by omega) (Or.inr ⟨g0,g1⟩)
 obtain ⟨c1,X',T',rfl,f1,f2,f3,f4⟩:=fin
 exact ⟨c1,tg',X',T',idsD,psD,rfl,hK,f1,f2,f3,f4⟩
def endTags (n:Nat) (tg tgE:Tags) (o od ow j:Nat):Tags:=fun k=>if k<n then tg k else if (tgE k).1=ow then (o,(tgE k).2) else if (tgE k).1=o∨(tgE k).1=od then tgE k else (j,0)
theorem endTags_old {n:Nat} {tg tgE:Tags} {o od ow j k:Nat} (h:k<n):endTags n tg tgE o od ow j k=tg k:=by simp [endTags,h]
theorem endTags_low {w w':World} {tg tgE:Tags} {o od ow j m:Nat} (hl:Low m tg w) (ho:o<m) (hod:od<m) (hj:j<m):Low m (endTags w.heap.size tg tgE o od ow j) w':=fun k _=>by
 unfold endTags
 split
 ·rename_i h;exact hl k h
 split
 ·exact ho
 split
 ·rename_i h;rcases h with h | h<;>rw [h]<;>assumption
 ·exact hj
theorem endTags_same {w:World} {tg tgE:Tags} {o od ow j k:Nat} (ht:∀ k,k<w.heap.size→tgE k=tg k) (h1:ow≠o) (h2:ow≠od) (h:(tgE k).1=o∨(tgE k).1=od):endTags w.heap.size tg tgE o od ow j k=tgE k:=by
 unfold endTags
 split
 ·rename_i hk;exact (ht k hk).symm
 ·have hne:¬(tgE k).1=ow:=fun e=>by
   rcases h with h|h
   ·exact h1 (e.symm.trans h)
   ·exact h2 (e.symm.trans h)
  rw [if_neg hne]
theorem layEnd_bad {w w':World} {tg tgE:Tags} {o od ow m s d c:Nat} {T0 T':S.Two} {X X':S.Sto} {V:S.Con} {bad:Prop} {ids ps ids' ps':List Nat} {P:Nat→Prop} (hl:Low m tg w) (ho:o<m) (hod:od<m) (hG:1<w.heap.size) (h1:ow≠o) (h2:ow≠od)
  (hK:Kept P tg w tgE w') (hP:∀ k,k<w.heap.size→P (tg k).1→(tg k).1=o∨(tg k).1=od) (hS:StoAt w' tgE o s d X' ids ps) (hD:LDiskAt w' tgE od d T'.dsk ids' ps') (hF:T'.dsk.Fine) (hB:LayBad T0 X V bad c X' T'):LayEnd w tg o od m s d T0 X V bad (.returned (.int .i64 (c:Int))) w':=
 ⟨c,endTags w.heap.size tg tgE o od ow (tg 1).1,X',T',ids,ps,ids',ps',rfl,⟨hK.os,hK.tape,hK.output,hK.size,fun _ hk=>endTags_old hk,fun k hk hn=>hK.block k hk (fun h=>hn (hP k hk h))⟩,endTags_low hl ho hod (hl _ hG),hS.retag (fun _ _ e=>endTags_same hK.tags h1 h2 (Or.inl e)),hD.retag (fun _ _ e=>endTags_same hK.tags h1 h2 (Or.inr e)),hF,Or.inr hB⟩
theorem layEnd_good {w W w':World} {tg tgE:Tags} {o od ow m s d B:Nat} {T0 T':S.Two} {X:S.Sto} {V:S.Con} {bad:Prop} {ids ps ids' ps':List Nat} {ixs:List ByteArray} {nw:List (ByteArray × Int)} {bs':List (List Rec)} {P Z:Nat→Prop} (hl:Low m tg w) (ho:o<m) (hod:od<m) (hG:1<w.heap.size) (h1:ow≠o) (h2:ow≠od) (h3:o≠od)
  (hK:Kept P tg w tgE W) (hP:∀ k,k<w.heap.size→P (tg k).1→(tg k).1=o∨(tg k).1=od) (hS:StoAt W tgE o s d X ids ps) (hsw:s<w.heap.size) (hW:WriAt W tgE ow B d [] ixs nw) (hrn:∀ k,k<w.heap.size→(tg k).1≠ow) (hD:LDiskAt W tgE od d T'.dsk ids' ps') (hF:T'.dsk.Fine) (hZ:∀ k,Z k→w.heap.size≤k∧(tgE k).1≠od∧(tgE k).1≠ow)
  (hs:W.heap.size≤w'.heap.size) (hos:w'.os=W.os) (hta:w'.tape=W.tape) (hou:w'.output=W.output) (hb:∀ k,k<W.heap.size→k≠s→¬Z k→w'.heap[k]?=W.heap[k]?) (hf:∀ j,w'.frozen? ⟨s,j,none⟩=false) (c012:∀ j,j<3→w'.cell? ⟨s,j,none⟩=W.cell? ⟨s,j,none⟩) (c3:w'.cell? ⟨s,3,none⟩=some (.int .i64 X.wm)) (c4:w'.cell? ⟨s,4,none⟩=W.cell? ⟨B,4,none⟩) (c5:w'.cell? ⟨s,5,none⟩=W.cell? ⟨B,5,none⟩) (c6:w'.cell? ⟨s,6,none⟩=some (.slice none 0 0)) (c7:w'.cell? ⟨s,7,none⟩=some (.slice none 0 0))
  (hfil:S.Fil theAp bs' V) (hnw:S.NwOk nw V) (hnl:nw.length≤209779) (hcap:T'.cap=T0.cap) (ha:T'.a=some (S.fileText bs' X.wm,(S.fileText bs' X.wm).length)) (hbb:T'.b=none) (hde:T'.dead=false) (hfu:T0.fuse=0→T'.fuse=0):LayEnd w tg o od m s d T0 X V bad (.returned (.int .i64 0)) w':=by
 obtain ⟨a1,k1,r1,r2,r3⟩:=hW.nw.keys
 obtain ⟨a2,k2,s1,s2,s3⟩:=hW.nw.vals
 have hrow:∀ g u,g<W.heap.size→tgE g=(ow,u+1)→g≠s∧¬Z g∧endTags w.heap.size tg tgE o od ow (tg 1).1 g=(o,u+1):=fun g u hg e=>by
  have hgs:g≠s:=fun e2=>by rw [e2,hS.ts] at e;injection e with e;omega
  have hgR:¬Z g:=fun e2=>(hZ g e2).2.2 (by rw [e])
  refine ⟨hgs,hgR,?_⟩
  unfold endTags
  rw [if_neg (fun hk=>hrn g hk (by rw [←hK.tags g hk,e])),if_pos (by rw [e]),e]
 have hsz:=hK.size
 refine ⟨0,endTags w.heap.size tg tgE o od ow (tg 1).1,X.laid nw,T',[],[],ids',ps',rfl,⟨hos.trans hK.os,hta.trans hK.tape,hou.trans hK.output,Nat.le_trans hK.size hs,fun k hk=>endTags_old hk,fun k hk hn=>?_⟩,endTags_low hl ho hod (hl _ hG),?_,?_,hF,Or.inl ⟨rfl,bs',nw,rfl,hfil,hnw,hnl,hcap,ha,hbb,hde,hfu⟩⟩
 ·rw [hb k (by omega) (fun e=>hn (Or.inl (by rw [e,←hK.tags s hsw,hS.ts]))) (fun e=>by have:=(hZ k e).1;omega)]
  exact hK.block k hk (fun h=>hn (hP k hk h))
 ·refine ⟨Nat.lt_of_lt_of_le hS.top hs,?_,hf,(c012 0 (by omega)).trans hS.c0,(c012 1 (by omega)).trans hS.c1,(c012 2 (by omega)).trans hS.c2,c3,⟨Nat.lt_of_lt_of_le hS.top hs,⟨a1,k1,c4.trans r1,row_keep r2 (fun g hg=>?_),fun g hg=>?_⟩,⟨a2,k2,c5.trans s1,row_keep s2 (fun g hg=>?_),fun g hg=>?_⟩,hW.nw.len⟩,KMap.empty (Nat.lt_of_lt_of_le hS.top hs) c6 c7,List.nodup_nil,rfl,fun i p id kr h1=>by simp at h1⟩
  ·rw [endTags_old hsw,←hK.tags s hsw];exact hS.ts
  ·have:=hrow g 0 (r2.lt g hg).2 (r3 g hg)
   exact hb g (r2.lt g hg).2 this.1 this.2.1
  ·exact (hrow g 0 (r2.lt g hg).2 (r3 g hg)).2.2
  ·have:=hrow g 1 (s2.lt g hg).2 (s3 g hg)
   exact hb g (s2.lt g hg).2 this.1 this.2.1
  ·exact (hrow g 1 (s2.lt g hg).2 (s3 g hg)).2.2
 ·refine (hD.keep (tg':=tgE) hs (fun _ _=>rfl) (fun k hk e=>hb k hk (fun e2=>by rw [e2,hS.ts] at e;exact h3 e) (fun e2=>(hZ k e2).2.1 e))).retag (fun k hk e=>endTags_same hK.tags h1 h2 (Or.inr e))
def LdnI (wS:World) (tgS:Tags) (P:Nat→Prop) (ow od B d:Nat) (T0:S.Two) (X:S.Sto) (C:S.Con) (kv:List S.Vs→Nat) (tg:Tags) (i:Nat) (W:World):Prop:=
 Kept P tgS wS tg W∧∃ T bs1 ol1 nw,Wrt W tg ow od B d T0 T bs1 ol1 (S.layC X C kv i) nw∧S.NwOk nw (S.layC X C kv i)
theorem LdnI.keep {wS:World} {tgS:Tags} {P Pk:Nat→Prop} {ow od B d:Nat} {T0:S.Two} {X:S.Sto} {C:S.Con} {kv:List S.Vs→Nat} {tg tg1:Tags} {i:Nat} {W W1:World} (h:LdnI wS tgS P ow od B d T0 X C kv tg i W) (k:Kept Pk tg W tg1 W1) (hk:∀ x,Pk x→P x) (h1:¬Pk ow) (h2:¬Pk od) (hG:1<wS.heap.size) (h3:¬Pk (tgS 1).1):LdnI wS tgS P ow od B d T0 X C kv tg1 i W1:=by
 obtain ⟨hK,T,bs1,ol1,nw,hW,hN⟩:=h
 exact ⟨hK.trans (k.wider hk),T,bs1,ol1,nw,hW.keep k h1 h2 (by rw [hK.tags _ hG];exact h3),hN⟩
theorem layC_below {X:S.Sto} {C:S.Con} {kv:List S.Vs→Nat} (hX:X.keys.Pairwise S.kless) {i:Nat} {k y:ByteArray} (hk:X.keys[i]?=some k) (h:S.layC X C kv i y≠[]):S.kless y k:=by
 have hm:=S.layC_key h
 obtain ⟨hi,he⟩:=List.getElem?_eq_some_iff.1 hk
 obtain ⟨j,hj,hje⟩:=List.mem_iff_getElem.1 hm
 rw [List.length_take] at hj
 rw [List.getElem_take] at hje
 have:=List.pairwise_iff_getElem.1 hX j i (by omega) hi (by omega)
 rw [hje,he] at this
 exact this
theorem ldn_add {w:World} {tg:Tags} {ow od B d:Nat} {T0 T:S.Two} {X:S.Sto} {bs:List (List Rec)} {C:S.Con} {kv:List S.Vs→Nat} {i m:Nat} {k:ByteArray} {bs1:List (List Rec)} {ol1:List Rec} {nw:List (ByteArray × Int)} (hX:X.Good bs C) (hk:X.keys[i]?=some k) (hW:Wrt w tg ow od B d T0 T bs1 ol1 (S.layC X C kv i) nw) (hN:S.NwOk nw (S.layC X C kv i)) (hm:m=kv (X.con C k)) (hml:m≤(X.hist bs.flatten k).length) (hlen:(X.hist bs.flatten k).length≤140737488351232) (vo:Option Addr) (vc:Nat) (hrow:Rcs w vo (X.hist bs.flatten k)) (htag:∀ a,vo=some a→X.hist bs.flatten k≠[]→¬Wo ow od (tg a.block).1) :
  Calls Tryz.prog 58 #[.pointer (some ⟨B,0,none⟩),.slice vo m vc] w fun e w'=>AddEnd w tg ow od B d T0 (S.layC X C kv i) (S.layC X C kv X.keys.length) nw k ((X.hist bs.flatten k).take m) ((X.con C k).take m) e w':=by
 have hl:((X.hist bs.flatten k).take m).length=m:=by rw [List.length_take];omega
 have hmem:∀ x∈(X.hist bs.flatten k).take m,x.key=k∧x.fits=true:=fun x hx=>hX.hist_key (List.mem_of_mem_take hx)
 have hks:=hX.keys_all.1
 have:=wadd_any (V:=S.layC X C kv X.keys.length) hW k ((X.hist bs.flatten k).take m) ((X.con C k).take m) (by omega) (fun x hx=>(hmem x hx).1) (fun x hx=>(hmem x hx).2) ((hX.hist_falls k).sublist (List.take_sublist ..)) ((hX.tells k).take m) (S.layC_at hks hk) (fun x hx=>layC_below hks hk (fun e=>by obtain ⟨v,hv,_⟩:=hW.m.mem hx;rw [e] at hv;simp at hv)) (by rw [hm,←S.layC_succ hk];exact S.layC_sub (i+1)) hN.up (fun y hy=>layC_below hks hk ((hN.key y).1 hy)) (by have:=hN.few hW.m (by have:=hW.total;omega);omega) vo vc ?_ ?_
 ·rw [hl] at this
  exact this
 ·rcases hrow with h|⟨b,off,h1,h2,h3⟩
  ·exact Or.inl (by rw [h,List.take_nil])
  ·exact Or.inr ⟨b,off,h1,h2,fun j r hr=>h3 j r (by rw [List.getElem?_take] at hr;split at hr<;>simp_all)⟩
 ·intro a ha hne
  exact htag a ha (fun e=>hne (by rw [e,List.take_nil]))
theorem ldn_added {wS w w':World} {tgS tg:Tags} {P:Nat→Prop} {ow od B d:Nat} {T0:S.Two} {X:S.Sto} {bs:List (List Rec)} {C:S.Con} {kv:List S.Vs→Nat} {i m:Nat} {k:ByteArray} {nw:List (ByteArray × Int)} {e:Ending} (hX:X.Good bs C) (hk:X.keys[i]?=some k) (hK:Kept P tgS wS tg w) (hP:∀ x,Wo ow od x→P x) (hN:S.NwOk nw (S.layC X C kv i)) (hm:m=kv (X.con C k))
  (h:AddEnd w tg ow od B d T0 (S.layC X C kv i) (S.layC X C kv X.keys.length) nw k ((X.hist bs.flatten k).take m) ((X.con C k).take m) e w') :
  ∃ (c:Nat) (tg':Tags),e=.returned (.int .i64 (c:Int))∧Kept (Wo ow od) tg w tg' w'∧((c=0∧LdnI wS tgS P ow od B d T0 X C kv tg' (i+1) w')∨(c≠0∧Stopped w' tg' od d T0 (S.layC X C kv X.keys.length) c)):=by
 obtain ⟨c,tg',rfl,hK2,hc⟩:=h
 refine ⟨c,tg',rfl,hK2,?_⟩
 rcases hc with ⟨h0,T',bs',ol',hW',_⟩|hst
 ·refine Or.inl ⟨h0,hK.trans (hK2.wider hP),T',bs',ol',(match ((X.hist bs.flatten k).take m).head? with | none=>nw | some r=>nw++[(k,r.stamp)]),?_,?_⟩
  ·rw [S.layC_succ hk,←hm];exact hW'
  ·rw [S.layC_succ hk,←hm]
   exact hN.step (S.layC_at hX.keys_all.1 hk) (fun y hy=>layC_below hX.keys_all.1 hk ((hN.key y).1 hy)) ((hX.tells k).take m).stamps
 ·exact Or.inr hst
end Go.Proofs.YtekdenkllipehabGreatDoor
namespace Go.Proofs.YtekdenkllipehabGreatDoor
open Go.RowKit Go.Shelf
attribute [local go_sem] Oper.semAt_some
def LdnX (wS:World) (tgS:Tags) (P:Nat→Prop) (o od s d R:Nat) (T0:S.Two) (X:S.Sto) (V:S.Con) (bad:Prop) (ids ps:List Nat) (tg:Tags) (W:World):Prop:=
 ∃ (c:Nat) (X':S.Sto) (T':S.Two) (ids' ps':List Nat),W.cell? ⟨R,0,none⟩=some (.int .i64 (c:Int))∧Kept P tgS wS tg W∧StoAt W tg o s d X' ids ps∧LDiskAt W tg od d T'.dsk ids' ps'∧T'.dsk.Fine∧LayBad T0 X V bad c X' T'
theorem LdnX.keep {wS:World} {tgS:Tags} {P Pk:Nat→Prop} {o od s d R:Nat} {T0:S.Two} {X:S.Sto} {V:S.Con} {bad:Prop} {ids ps:List Nat} {tg tg1:Tags} {W W1:World} (h:LdnX wS tgS P o od s d R T0 X V bad ids ps tg W) (k:Kept Pk tg W tg1 W1) (hk:∀ x,Pk x→P x) (h1:¬Pk o) (h2:¬Pk od) (hR:R<wS.heap.size) (h3:¬Pk (tgS R).1):LdnX wS tgS P o od s d R T0 X V bad ids ps tg1 W1:=by
 obtain ⟨c,X',T',ids',ps',hc,hK,hS,hD,hF,hB⟩:=h
 refine ⟨c,X',T',ids',ps',?_,hK.trans (k.wider hk),hS.keep k.size k.tags (fun i hi e=>k.block i hi (by rw [e];exact h1)),hD.keep k.size k.tags (fun i hi e=>k.block i hi (by rw [e];exact h2)),hF,hB⟩
 exact (World.cell?_of_block (a:=⟨R,0,none⟩) (k.block R (Nat.lt_of_lt_of_le hR hK.size) (by rw [hK.tags R hR];exact h3))).trans hc
theorem Kept.set {w:World} {tg:Tags} {R r:Nat} (h:(tg R).1=r) (v:Value):Kept (·=r) tg w tg (w.setCell ⟨R,0,none⟩ v):=
 ⟨rfl,rfl,rfl,by simp,fun _ _=>rfl,fun k _ hn=>heap_setCell_other _ ⟨R,0,none⟩ k _ (by intro e;subst e;exact hn h)⟩
theorem own_block {w:World} {base:Nat} {a:Addr} {cap:Nat} {L:List Rec} (h:w.ownsRow base 62 4 (.slice (some a) L.length cap) L.length (recCells L)):(Value.slice (some a) L.length cap).ownBlock=some a.block:=by
 rcases h.2 with h2|⟨g,cap',cur,hv,_⟩
 ·injection h2.1 with h3
  cases h3
 ·injection hv with hv
  injection hv with hv
  subst hv
  rfl
theorem layDown_all {w:World} {tg:Tags} {o od m s d:Nat} {T0:S.Two} {X:S.Sto} {bs:List (List Rec)} {C:S.Con} {bad:Prop} {wmf:Int} {ids ps ids' ps':List Nat} (h:Rdy w tg o od m s d T0 X bs C bad wmf ids ps ids' ps') :
  Calls Tryz.prog 37 #[.pointer (some ⟨s,0,none⟩),(.func (.func 55) #[] #[])] w fun e w'=>LayEnd w tg o od m s d T0 X (S.layC X C List.length X.keys.length) bad e w':=by
 refine (callsIn_wide (n:=40)).1 ?_
 refine callsIn_of_wp_marks Tryz.func37 rfl trivial ?_ rfl
 simp only [Tryz.ntmps37,List.size_toArray,List.length_cons,List.length_nil,Nat.reduceAdd,Nat.reduceSub,Array.replicate_succ,Array.replicate_zero,List.push_toArray,List.append_toArray,List.nil_append,List.cons_append]
 have hmx:Tryz.prog.follows .mixedOrders=true:=by kernel_rfl
 have c0:=h.sto.c0
 have HR:Hid (Rdy w tg o od m s d T0 X bs C bad wmf ids ps ids' ps'):=h
 have q3:Q w (((w.alloc (.cells #[.pointer (some ⟨s,0,none⟩)] 30)).alloc (.cells #[(.func (.func 55) #[] #[])] 112)).alloc (.cells #[.int .i64 0] 28)):=(((Q.refl w).alloc _ _).alloc _ _).alloc _ _
 have k0:=kept_cell c0 q3
 clear h
 gi_wp2
 refine ⟨trivial,(histories_in _ _ _).mono ?_⟩
 rintro e w3 ⟨rfl,rfl⟩
 gi_wp2
 clear k0 q3
 obtain ⟨wl,hwl⟩:∃ wl,wl=((((w.alloc (.cells #[.pointer (some ⟨s,0,none⟩)] 30)).alloc (.cells #[(.func (.func 55) #[] #[])] 112)).alloc (.cells #[.int .i64 0] 28)).alloc (.cells #[.pointer (some ⟨d,0,none⟩),.slice none 0 0,.int .i64 0,.slice none 0 0,.slice none 0 0,.slice none 0 0] 117)).alloc (.cells #[.pointer (some ⟨s,0,none⟩)] 30):=⟨_,rfl⟩
 have qwl:Q w wl:=by rw [hwl];exact (((((Q.refl w).alloc _ _).alloc _ _).alloc _ _).alloc _ _).alloc _ _
 have hszl:wl.heap.size=w.heap.size+5:=by rw [hwl];simp
 have hv0:VarN wl w.heap.size [.pointer (some ⟨s,0,none⟩)]:=by
  rw [hwl];exact (varN_new w [.pointer (some ⟨s,0,none⟩)] 30).kept (((((Q.refl _).alloc _ _).alloc _ _).alloc _ _).alloc _ _)
 have hv1:VarN wl (w.heap.size+1) [(.func (.func 55) #[] #[])]:=by
  have:=(varN_new (w.alloc (.cells #[.pointer (some ⟨s,0,none⟩)] 30)) [(.func (.func 55) #[] #[])] 112).kept ((((Q.refl _).alloc #[.int .i64 0] 28).alloc #[.pointer (some ⟨d,0,none⟩),.slice none 0 0,.int .i64 0,.slice none 0 0,.slice none 0 0,.slice none 0 0] 117).alloc #[.pointer (some ⟨s,0,none⟩)] 30)
  rw [World.size_alloc] at this
  rw [hwl];exact this
 have hv2:VarN wl (w.heap.size+2) [.int .i64 0]:=by
  have:=(varN_new ((w.alloc (.cells #[.pointer (some ⟨s,0,none⟩)] 30)).alloc (.cells #[(.func (.func 55) #[] #[])] 112)) [.int .i64 0] 28).kept (((Q.refl _).alloc #[.pointer (some ⟨d,0,none⟩),.slice none 0 0,.int .i64 0,.slice none 0 0,.slice none 0 0,.slice none 0 0] 117).alloc #[.pointer (some ⟨s,0,none⟩)] 30)
  rw [World.size_alloc,World.size_alloc] at this
  rw [hwl];exact this
 have hv3:VarN wl (w.heap.size+3) [.pointer (some ⟨d,0,none⟩),.slice none 0 0,.int .i64 0,.slice none 0 0,.slice none 0 0,.slice none 0 0]:=by
  have:=(varN_new (((w.alloc (.cells #[.pointer (some ⟨s,0,none⟩)] 30)).alloc (.cells #[(.func (.func 55) #[] #[])] 112)).alloc (.cells #[.int .i64 0] 28)) [.pointer (some ⟨d,0,none⟩),.slice none 0 0,.int .i64 0,.slice none 0 0,.slice none 0 0,.slice none 0 0] 117).kept ((Q.refl _).alloc #[.pointer (some ⟨s,0,none⟩)] 30)
  rw [World.size_alloc,World.size_alloc,World.size_alloc] at this
  rw [hwl];exact this
 have hv3f:∀ j,wl.frozen? ⟨w.heap.size+3,j,none⟩=false:=fun j=>by
  obtain ⟨wz,hwz⟩:∃ wz,wz=(((w.alloc (.cells #[.pointer (some ⟨s,0,none⟩)] 30)).alloc (.cells #[(.func (.func 55) #[] #[])] 112)).alloc (.cells #[.int .i64 0] 28)):=⟨_,rfl⟩
  have hz:wz.heap.size=w.heap.size+3:=by rw [hwz];simp
  have h1:(wz.alloc (.cells #[.pointer (some ⟨d,0,none⟩),.slice none 0 0,.int .i64 0,.slice none 0 0,.slice none 0 0,.slice none 0 0] 117)).frozen? ⟨wz.heap.size,j,none⟩=false:=by simp
  rw [hwl,←hwz,←hz]
  exact (World.frozen?_of_block (a:=⟨wz.heap.size,j,none⟩) (((Q.refl _).alloc #[.pointer (some ⟨s,0,none⟩)] 30).below.block _ (by simp))).trans h1
 have hv4:VarN wl (w.heap.size+4) [.pointer (some ⟨s,0,none⟩)]:=by
  have:=varN_new ((((w.alloc (.cells #[.pointer (some ⟨s,0,none⟩)] 30)).alloc (.cells #[(.func (.func 55) #[] #[])] 112)).alloc (.cells #[.int .i64 0] 28)).alloc (.cells #[.pointer (some ⟨d,0,none⟩),.slice none 0 0,.int .i64 0,.slice none 0 0,.slice none 0 0,.slice none 0 0] 117)) [.pointer (some ⟨s,0,none⟩)] 30
  rw [World.size_alloc,World.size_alloc,World.size_alloc,World.size_alloc] at this
  rw [hwl];exact this
 obtain ⟨tgS,htgS⟩:∃ tgS:Tags,tgS=fun k=>if k<w.heap.size then tg k else if k=w.heap.size+2 then (m+6,0) else if k=w.heap.size+3 then (m,0) else (m+5,0):=⟨_,rfl⟩
 have tl0:∀ k,k<w.heap.size→tgS k=tg k:=fun k hk=>by rw [htgS];simp [hk]
 have tlR:tgS (w.heap.size+2)=(m+6,0):=by rw [htgS];show (if _ then _ else _)=_;rw [if_neg (by omega),if_pos rfl]
 have tlB:tgS (w.heap.size+3)=(m,0):=by rw [htgS];show (if _ then _ else _)=_;rw [if_neg (by omega),if_neg (by omega),if_pos rfl]
 have tlS:∀ k,w.heap.size≤k→k≠w.heap.size+2→k≠w.heap.size+3→tgS k=(m+5,0):=fun k h1 h2 h3=>by rw [htgS];simp [Nat.not_lt.2 h1,h2,h3]
 have hG:=tab_lt HR.out.tab
 have hGl:=HR.out.low _ hG
 have hom:=HR.out.om
 have hodm:=HR.out.odm
 have hne:=HR.out.ne
 have hSl:StoAt wl tgS o s d X ids ps:=HR.out.sto.keep qwl.below.size tl0 (fun k hk _=>qwl.below.block k hk)
 have hDl:LDiskAt wl tgS od d T0.dsk ids' ps':=HR.out.disk.keep qwl.below.size tl0 (fun k hk _=>qwl.below.block k hk)
 have hTl:Tab wl:=tab_kept HR.out.tab qwl
 have htG:tgS 1=tg 1:=tl0 _ hG
 have hW0:Wrt wl tgS m od (w.heap.size+3) d T0 T0 [] [] (S.layC X C List.length 0) []:=by
  rw [S.layC_zero]
  refine ⟨⟨hv3.1,tlB,fun j=>?_,hv3.cell 0 rfl,⟨none,0,hv3.cell 1 rfl,World.ownsRow_nil _ _ _ _,fun g hg=>by simp [Value.ownBlock] at hg⟩,hv3.cell 2 rfl,⟨none,0,hv3.cell 3 rfl,World.ownsRow_nil _ _ _ _,fun g hg=>by simp [Value.ownBlock] at hg⟩,KMap.empty hv3.1 (hv3.cell 4 rfl) (hv3.cell 5 rfl)⟩,⟨ids',ps',hDl⟩,HR.out.fine,by omega,hTl,by rw [htG];exact ⟨by omega,HR.out.tabo.2⟩,S.Wri.start theAp,⟨rfl,rfl,?_,HR.out.alive,fun e=>e⟩⟩
  ·exact hv3f j
  ·rw [HR.out.nob];rfl
 have hI0:LdnI wl tgS (fun x=>x=m∨x=od∨(m+1≤x∧x≤m+4)) m od (w.heap.size+3) d T0 X C List.length tgS 0 wl:=⟨Kept.refl _ _ _,T0,[],[],[],hW0,by rw [S.layC_zero];exact S.NwOk.none⟩
 rw [←hwl]
 clear hwl htgS
 refine range_X rfl (by omega) (gf:=84) (lb:=#[.pointer (some ⟨w.heap.size+1+1+1+1,0,none⟩)]) (by simp [Act.eval]) trivial (enters_of Tryz.func84 rfl rfl) X.keys.length (m+4) (fun x=>x=m+1∨x=m+2∨x=m+3) (Wo m od) (fun x=>x=m∨x=od∨x=o∨x=m+6) HistsOk (HistsG bad (m+1) X bs.flatten) tgS (by omega) (fun e=>by rcases e with e | e<;>omega) (by omega) (fun x e=>by rcases e with e | e<;>simp [e]) ?seq ?ps ?hG
  (fun tg1 i W=>LdnI wl tgS (fun x=>x=m∨x=od∨(m+1≤x∧x≤m+4)) m od (w.heap.size+3) d T0 X C List.length tg1 i W) (fun c tg1 _ W=>c=.ret∧LdnX wl tgS (fun x=>x=m∨x=od∨(m+1≤x∧x≤m+4)∨x=o∨x=m+6) o od s d (w.heap.size+2) T0 X (S.layC X C List.length X.keys.length) bad ids ps tg1 W) ?hI ?hIx hI0
  (fun _ vs=>{ tmps:=#[.pointer (some ⟨s,0,none⟩),(.func (.func 55) #[] #[]),.pointer (some ⟨w.heap.size,0,none⟩),.pointer (some ⟨w.heap.size+1,0,none⟩),.pointer (some ⟨w.heap.size+1+1,0,none⟩),.pointer (some ⟨w.heap.size+1+1+1,0,none⟩),vs.getD 0 undef,vs.getD 1 undef,undef,.pointer (some ⟨s,0,none⟩),.pointer (some ⟨s,0,none⟩),.pointer (some ⟨s,0,none⟩),.pointer (some ⟨d,0,none⟩),.agg #[.pointer (some ⟨d,0,none⟩),.slice none 0 0,.int .i64 0,.slice none 0 0,.slice none 0 0,.slice none 0 0],.pointer (some ⟨s,0,none⟩),.func (.func 84) #[] #[.pointer (some ⟨w.heap.size+1+1+1+1,0,none⟩)],vs.getD 0 undef,vs.getD 1 undef,undef,undef,undef,undef,undef,undef,undef,undef,undef,undef,undef,undef,undef,undef,undef,undef,undef,undef,undef,undef,undef,undef,undef,undef,undef,undef,undef,undef,undef,undef,undef,undef,undef,undef,undef,undef,undef],defers:=[]}) ?assign ?body ?done ?stop
 case seq =>
  intro W1 tg1 hb1 hs1 ht1
  have wb:∀ k,k<wl.heap.size→W1.heap[k]?=wl.heap[k]?:=fun k hk=>hb1.block k hk
  have hsz1:wl.heap.size≤W1.heap.size:=by omega
  have t1G:tg1 1=tg 1:=(ht1 _ (by omega)).trans htG
  have t14:tg1 (w.heap.size+4)=(m+5,0):=(ht1 _ (by omega)).trans (tlS _ (by omega) (by omega) (by omega))
  exact histories1 39 (by omega) (so:=m+1) (sc:=m+2) (lo:=m+3) (Bs:=w.heap.size+4) (fun x=>x=m+1∨x=m+2∨x=m+3) (fun x=>Wo m od x∨x=m+4) (fun x=>(x=m∨x=od∨x=o∨x=m+6)∨x=m+4) (fun x e=>by rcases e with (e | e) | e<;>simp [e]) (hSl.keep hsz1 ht1 (fun k hk _=>wb k hk)) HR.out.good (hDl.keep hsz1 ht1 (fun k hk _=>wb k hk)) HR.out.fine HR.out.on (tab_block hTl (wb _ (by omega))) ((World.cell?_of_block (a:=⟨w.heap.size+4,0,none⟩) (wb (w.heap.size+4) (by omega))).trans (hv4.cell 0 rfl)) ⟨by omega,by rw [t14];intro e;rcases e with ((e | e) | e) | e | e<;>simp at e<;>omega⟩ (by rw [t1G];have:=HR.out.tabo;intro e;rcases e with ((e | e) | e) | e | e<;>first | omega | exact this.2 e) (Or.inl rfl) (Or.inr (Or.inl rfl)) (Or.inr (Or.inr rfl)) (by omega) (by omega) (by omega) (fun x e1 e2=>by rcases e1 with e1 | e1 | e1<;>rcases e2 with (e2 | e2 | e2 | e2) | e2<;>omega) (fun e=>by rcases e with ((e | e) | e) | e | e<;>omega)
 case ps =>
  rintro tg1 i vs W (⟨k,vo,vc,_,rfl,_,_⟩ | ⟨_,rfl⟩)<;>rfl
 case hG =>
  rintro tg1 i vs A' tg2 B' (⟨k,vo,vc,hk,rfl,hown,hgt⟩|⟨hb,rfl⟩) hkp
  ·refine Or.inl ⟨k,vo,vc,hk,rfl,row_keep hown (fun g hg=>hkp.block g (hown.lt g hg).2 (by rw [hgt g hg];omega)),fun g hg=>by rw [hkp.tags g (hown.lt g hg).2];exact hgt g hg⟩
  ·exact Or.inr ⟨hb,rfl⟩
 case hI =>
  rintro tg1 i A' tg2 B' hh hkp
  refine hh.keep hkp (fun x e=>by rcases e with (e | e | e) | e<;>subst e<;>omega) (fun e=>by rcases e with (e | e | e) | e<;>omega) (fun e=>by rcases e with (e | e | e) | e<;>omega) (by omega) (by rw [htG];intro e;rcases e with (e | e | e) | e<;>omega)
 case hIx =>
  rintro c tg1 i A' tg2 B' ⟨hc,hh⟩ hkp
  exact ⟨hc,hh.keep hkp (fun x e=>by rcases e with (e | e | e) | e<;>subst e<;>omega) (fun e=>by rcases e with (e | e | e) | e<;>omega) (fun e=>by rcases e with (e | e | e) | e<;>omega) (by omega) (by rw [tlR];intro e;rcases e with (e | e | e) | e<;>simp at e)⟩
 case assign =>
  rintro l i tg1 vs W K (⟨k,vo,vc,_,rfl,_,_⟩|⟨_,rfl⟩) hK
  ·simp only [Array.getD_eq_getD_getElem?,List.getElem?_toArray,List.getElem?_cons_zero,List.getElem?_cons_succ,Option.getD_some] at hK
   gi_wp2
   exact hK
  ·simp only [Array.getD_eq_getD_getElem?,List.getElem?_toArray,List.getElem?_cons_zero,List.getElem?_cons_succ,Option.getD_some] at hK
   gi_wp2
   exact hK
 case body =>
  rintro l i tg1 vs W hl2 hI hGv
  obtain ⟨hK,T,bs1,ol1,nw,hW,hN⟩:=hI
  have hszW:=hK.size
  have wW:∀ k,k<wl.heap.size→¬((tgS k).1=m∨(tgS k).1=od∨(m+1≤(tgS k).1∧(tgS k).1≤m+4))→W.heap[k]?=wl.heap[k]?:=fun k h1 h2=>hK.block k h1 h2
  have hSW:StoAt W tg1 o s d X ids ps:=hSl.keep hszW hK.tags (fun k hk e=>wW k hk (by rw [e];omega))
  have z0:W.cell? ⟨w.heap.size,0,none⟩=some (.pointer (some ⟨s,0,none⟩)):=(World.cell?_of_block (a:=⟨w.heap.size,0,none⟩) (wW w.heap.size (by omega) (by rw [tlS w.heap.size (by omega) (by omega) (by omega)];simp;omega))).trans (hv0.cell 0 rfl)
  have z1:W.cell? ⟨w.heap.size+1,0,none⟩=some (.func (.func 55) #[] #[]):=(World.cell?_of_block (a:=⟨w.heap.size+1,0,none⟩) (wW (w.heap.size+1) (by omega) (by rw [tlS (w.heap.size+1) (by omega) (by omega) (by omega)];simp;omega))).trans (hv1.cell 0 rfl)
  have hb2:W.heap[w.heap.size+2]?=wl.heap[w.heap.size+2]?:=wW _ (by omega) (by rw [tlR];simp;omega)
  have t0:tg1 w.heap.size=(m+5,0):=(hK.tags _ (by omega)).trans (tlS _ (by omega) (by omega) (by omega))
  have t2:tg1 (w.heap.size+2)=(m+6,0):=(hK.tags _ (by omega)).trans tlR
  have hv2W:VarN W (w.heap.size+2) [.int .i64 0]:=hv2.of_block hb2 hszW
  rcases hGv with ⟨k,vo,vc,hki,rfl,hown,hgt⟩|⟨hbad,rfl⟩
  ·have hrc:=own_rcs hown
   have hlenU:=(HR.out.good.tells k).length
   have hfew:=HR.out.good.fil
   have hLen:=HR.out.histLen k
   have htg:∀ a,vo=some a→X.hist bs.flatten k≠[]→¬Wo m od (tg1 a.block).1:=fun a ha _=>by
    subst ha
    have:=hgt a.block (own_block hown)
    rw [this]
    rintro (e | e)<;>omega
   have AD:Hid _:=fun (W':World) (q:Q W W')=>ldn_add (B:=w.heap.size+1+1+1) HR.out.good hki (hW.kept q) hN hlenU.symm (Nat.le_refl _) hLen vo vc (hrc.kept q) htg
   have HH:Hid (Kept (fun x=>x=m∨x=od∨(m+1≤x∧x≤m+4)) tgS wl tg1 W∧S.NwOk nw (S.layC X C List.length i)∧StoAt W tg1 o s d X ids ps∧VarN W (w.heap.size+2) [.int .i64 0]):=⟨hK,hN,hSW,hv2W⟩
   have HKI:Hid (X.keys[i]?=some k):=hki
   clear hK hN hW hSW hown hgt hrc hfew htg hki wW hb2 hv2W
   simp only [Array.getD_eq_getD_getElem?,List.getElem?_toArray,List.getElem?_cons_zero,List.getElem?_cons_succ,Option.getD_some]
   gi_wp2
   refine ⟨trivial,(CallsIn.inRound l (callsIn_wide.2 (all_any _ _))).mono ?_⟩
   rintro e wk ⟨rfl,hwk⟩
   have qk:Q W wk:=by rw [hwk];exact Q.refl _
   clear hwk
   have AD2:Hid _:=fun (_:Unit)=>AD.out wk qk
   have y0:=kept_cell z0 qk
   clear AD z1
   gi_wp2
   refine ⟨trivial,(CallsIn.inRound l (callsIn_wide.2 (AD2.out ()))).mono ?_⟩
   rintro e w5 hA
   obtain ⟨hK,hN,hSW,hv2W⟩:=HH.out
   obtain ⟨c,tg5,rfl,hK5,hc⟩:=ldn_added HR.out.good HKI.out (hK.trans (Kept.of_q qk (fun _ _=>rfl))) (fun x e=>by rcases e with e | e<;>simp [e]) hN hlenU.symm hA
   have hKb:Kept (Wo m od) tg1 W tg5 w5:=(Kept.of_q qk (fun _ _=>rfl)).trans hK5
   have hS5:StoAt w5 tg5 o s d X ids ps:=hSW.keep hKb.size hKb.tags (fun j hj e=>hKb.block j hj (by rw [e];rintro (e | e)<;>omega))
   have hv5:VarN w5 (w.heap.size+2) [.int .i64 0]:=hv2W.of_block (hKb.block _ hv2W.1 (by rw [t2];rintro (e | e)<;>simp at e<;>omega)) hKb.size
   have u0:w5.cell? ⟨w.heap.size,0,none⟩=some (.pointer (some ⟨s,0,none⟩)):=(World.cell?_of_block (a:=⟨w.heap.size,0,none⟩) (hKb.block w.heap.size (cell_lt z0) (by rw [t0];rintro (e | e)<;>simp at e<;>omega))).trans z0
   have t25:tg5 (w.heap.size+2)=(m+6,0):=(hKb.tags _ hv2W.1).trans t2
   have hKl:=hK.trans (hKb.wider (R:=fun x=>x=m∨x=od∨(m+1≤x∧x≤m+4)) (fun x e=>by rcases e with e | e<;>simp [e]))
   have HH5:Hid (Kept (Wo m od) tg1 W tg5 w5∧StoAt w5 tg5 o s d X ids ps∧VarN w5 (w.heap.size+2) [.int .i64 0]∧tg5 (w.heap.size+2)=(m+6,0)∧Kept (fun x=>x=m∨x=od∨(m+1≤x∧x≤m+4)) tgS wl tg5 w5):=⟨hKb,hS5,hv5,t25,hKl⟩
   clear AD2 HH hA hK hN hSW hv2W hK5 hKb hS5 hv5 y0 qk z0 t25 hKl
   by_cases hc0:c=0
   ·subst hc0
    have HI5:Hid (LdnI wl tgS (fun x=>x=m∨x=od∨(m+1≤x∧x≤m+4)) m od (w.heap.size+3) d T0 X C List.length tg5 (i+1) w5):=by
     rcases hc with ⟨_,h⟩|⟨h,_⟩
     ·exact h
     ·exact absurd rfl h
    clear hc
    gi_wp2
    exact ⟨tg5,HH5.out.1,rfl,HI5.out⟩
   ·have hcI:¬(c:Int)=0:=by omega
    have hcb:((c:Int) != 0)=true:=by simp [hc0]
    have hst:Stopped w5 tg5 od d T0 (S.layC X C List.length X.keys.length) c:=by
     rcases hc with ⟨h,_⟩|⟨_,h⟩
     ·exact absurd h hc0
     ·exact h
    have GU:Hid _:=fun (_:Unit)=>giveUp_s HH5.out.2.1 (hst.stop3 bad) hne
    clear hc hc0 hst
    gi_wp2
    refine ⟨trivial,(CallsIn.inRound l (callsIn_wide.2 (GU.out ()))).mono ?_⟩
    rintro e w6 ⟨c1,tg6,X6,T6,ids6,ps6,rfl,hK6,hS6,hD6,hF6,hB6⟩
    obtain ⟨hKb,hS5,hv5,t25,hKl⟩:=HH5.out
    have hv6:VarN w6 (w.heap.size+2) [.int .i64 0]:=hv5.of_block (hK6.block _ hv5.1 (by rw [t25];rintro (e | e)<;>simp at e<;>omega)) hK6.size
    have t26:tg6 (w.heap.size+2)=(m+6,0):=(hK6.tags _ hv5.1).trans t25
    have u2:w6.cell? ⟨w.heap.size+1+1,0,none⟩=some (.int .i64 0):=hv6.cell 0 rfl
    have u3:w6.frozen? ⟨w.heap.size+1+1,0,none⟩=false:=hv6.free 0 rfl
    have hset:=Kept.set (w:=w6) (tg:=tg6) (R:=w.heap.size+2) (r:=m+6) (by rw [t26]) (.int .i64 (c1:Int))
    have HX6:Hid (Kept (fun x=>x=m∨x=od∨x=o∨x=m+6) tg1 W tg6 (w6.setCell ⟨w.heap.size+1+1,0,none⟩ (.int .i64 (c1:Int)))∧LdnX wl tgS (fun x=>x=m∨x=od∨(m+1≤x∧x≤m+4)∨x=o∨x=m+6) o od s d (w.heap.size+2) T0 X (S.layC X C List.length X.keys.length) bad ids ps tg6 (w6.setCell ⟨w.heap.size+1+1,0,none⟩ (.int .i64 (c1:Int)))):=by
     refine ⟨((hKb.wider (fun x e=>by rcases e with e | e<;>simp [e])).trans (hK6.wider (fun x e=>by rcases e with e | e<;>simp [e]))).trans (hset.wider (fun x e=>by simp [e])),c1,X6,T6,ids6,ps6,World.cell?_setCell_same _ _ _ u2,((hKl.wider (fun x e=>by rcases e with e | e | e<;>simp [e])).trans (hK6.wider (fun x e=>by rcases e with e | e<;>simp [e]))).trans (hset.wider (fun x e=>by simp [e])),hS6.keep hset.size hset.tags (fun j hj e=>hset.block j hj (by rw [e];omega)),hD6.keep hset.size hset.tags (fun j hj e=>hset.block j hj (by rw [e];omega)),hF6,hB6⟩
    clear GU hKb hS5 hv5 t25 hKl hK6 hS6 hD6 hF6 hB6 hv6 t26 hset
    gi_wp2
    exact ⟨tg6,HX6.out.1,rfl,HX6.out.2⟩
  ·have hGU:Stop3 W tg1 od d T0 (S.layC X C List.length X.keys.length) bad 3:=by
    obtain ⟨idsX,psX,hdX⟩:=hW.disk
    exact ⟨T,idsX,psX,hdX,hW.fine,Or.inr (Or.inr ⟨hbad,rfl,_,hW.bld⟩)⟩
   have GU:Hid _:=fun (_:Unit)=>giveUp_s hSW hGU hne
   have HH5:Hid (Kept (Wo m od) tg1 W tg1 W∧StoAt W tg1 o s d X ids ps∧VarN W (w.heap.size+2) [.int .i64 0]∧tg1 (w.heap.size+2)=(m+6,0)∧Kept (fun x=>x=m∨x=od∨(m+1≤x∧x≤m+4)) tgS wl tg1 W):=⟨Kept.refl _ _ _,hSW,hv2W,t2,hK⟩
   have u0:=z0
   clear hGU hW hN hK hSW hv2W wW hb2 z0 z1
   simp only [Array.getD_eq_getD_getElem?,List.getElem?_toArray,List.getElem?_cons_zero,List.getElem?_cons_succ,Option.getD_some]
   gi_wp2
   refine ⟨trivial,(CallsIn.inRound l (callsIn_wide.2 (GU.out ()))).mono ?_⟩
   rintro e w6 ⟨c1,tg6,X6,T6,ids6,ps6,rfl,hK6,hS6,hD6,hF6,hB6⟩
   obtain ⟨hKb,hS5,hv5,t25,hKl⟩:=HH5.out
   have hv6:VarN w6 (w.heap.size+2) [.int .i64 0]:=hv5.of_block (hK6.block _ hv5.1 (by rw [t25];rintro (e | e)<;>simp at e<;>omega)) hK6.size
   have t26:tg6 (w.heap.size+2)=(m+6,0):=(hK6.tags _ hv5.1).trans t25
   have u2:w6.cell? ⟨w.heap.size+1+1,0,none⟩=some (.int .i64 0):=hv6.cell 0 rfl
   have u3:w6.frozen? ⟨w.heap.size+1+1,0,none⟩=false:=hv6.free 0 rfl
   have hset:=Kept.set (w:=w6) (tg:=tg6) (R:=w.heap.size+2) (r:=m+6) (by rw [t26]) (.int .i64 (c1:Int))
   have HX6:Hid (Kept (fun x=>x=m∨x=od∨x=o∨x=m+6) tg1 W tg6 (w6.setCell ⟨w.heap.size+1+1,0,none⟩ (.int .i64 (c1:Int)))∧LdnX wl tgS (fun x=>x=m∨x=od∨(m+1≤x∧x≤m+4)∨x=o∨x=m+6) o od s d (w.heap.size+2) T0 X (S.layC X C List.length X.keys.length) bad ids ps tg6 (w6.setCell ⟨w.heap.size+1+1,0,none⟩ (.int .i64 (c1:Int)))):=by
    refine ⟨((hKb.wider (fun x e=>by rcases e with e | e<;>simp [e])).trans (hK6.wider (fun x e=>by rcases e with e | e<;>simp [e]))).trans (hset.wider (fun x e=>by simp [e])),c1,X6,T6,ids6,ps6,World.cell?_setCell_same _ _ _ u2,((hKl.wider (fun x e=>by rcases e with e | e | e<;>simp [e])).trans (hK6.wider (fun x e=>by rcases e with e | e<;>simp [e]))).trans (hset.wider (fun x e=>by simp [e])),hS6.keep hset.size hset.tags (fun j hj e=>hset.block j hj (by rw [e];omega)),hD6.keep hset.size hset.tags (fun j hj e=>hset.block j hj (by rw [e];omega)),hF6,hB6⟩
   clear GU hKb hS5 hv5 t25 hKl hK6 hS6 hD6 hF6 hB6 hv6 t26 hset
   gi_wp2
   exact ⟨tg6,HX6.out.1,rfl,HX6.out.2⟩
 case done =>
  rintro D2 tg1 W hD2 hI htD hDW
  obtain ⟨hK,T,bs1,ol1,nw,hW,hN⟩:=hI
  have hszW:=hK.size
  have wW:∀ k,k<wl.heap.size→¬((tgS k).1=m∨(tgS k).1=od∨(m+1≤(tgS k).1∧(tgS k).1≤m+4))→W.heap[k]?=wl.heap[k]?:=fun k h1 h2=>hK.block k h1 h2
  have hSW:StoAt W tg1 o s d X ids ps:=hSl.keep hszW hK.tags (fun k hk e=>wW k hk (by rw [e];omega))
  have z0:W.cell? ⟨w.heap.size,0,none⟩=some (.pointer (some ⟨s,0,none⟩)):=(World.cell?_of_block (a:=⟨w.heap.size,0,none⟩) (wW w.heap.size (by omega) (by rw [tlS w.heap.size (by omega) (by omega) (by omega)];simp;omega))).trans (hv0.cell 0 rfl)
  have hb2:W.heap[w.heap.size+2]?=wl.heap[w.heap.size+2]?:=wW _ (by omega) (by rw [tlR];simp;omega)
  have t0:tg1 w.heap.size=(m+5,0):=(hK.tags _ (by omega)).trans (tlS _ (by omega) (by omega) (by omega))
  have t2:tg1 (w.heap.size+2)=(m+6,0):=(hK.tags _ (by omega)).trans tlR
  have hv2W:VarN W (w.heap.size+2) [.int .i64 0]:=hv2.of_block hb2 hszW
  have z2:=hSW.c2
  have hfew:=hN.few hW.m (by have:=hW.total;omega)
  have EN:Hid _:=fun (_:Unit)=>wend_any (V:=S.layC X C List.length X.keys.length) hW (fun _ _ h=>h) X.wm (by have:=HR.out.good.fl1;have:=HR.out.good.fl2;omega) HR.out.good.top
  have HH:Hid (Kept (fun x=>x=m∨x=od∨(m+1≤x∧x≤m+4)) tgS wl tg1 W∧StoAt W tg1 o s d X ids ps∧VarN W (w.heap.size+2) [.int .i64 0]∧S.NwOk nw (S.layC X C List.length X.keys.length)∧nw.length≤209779):=⟨hK,hSW,hv2W,hN,hfew⟩
  clear hK hW hN hSW hb2 hv2W wW hfew
  gi_wp2
  refine ⟨trivial,(callsIn_wide.2 (EN.out ())).mono ?_⟩
  rintro e w5 ⟨c,tg5,rfl,hKb,hc⟩
  obtain ⟨hK,hSW,hv2W,hN,hfew⟩:=HH.out
  have hS5:StoAt w5 tg5 o s d X ids ps:=hSW.keep hKb.size hKb.tags (fun j hj e=>hKb.block j hj (by rw [e];rintro (e | e)<;>omega))
  have hv5:VarN w5 (w.heap.size+2) [.int .i64 0]:=hv2W.of_block (hKb.block _ hv2W.1 (by rw [t2];rintro (e | e)<;>simp at e<;>omega)) hKb.size
  have u0:w5.cell? ⟨w.heap.size,0,none⟩=some (.pointer (some ⟨s,0,none⟩)):=(World.cell?_of_block (a:=⟨w.heap.size,0,none⟩) (hKb.block w.heap.size (cell_lt z0) (by rw [t0];rintro (e | e)<;>simp at e<;>omega))).trans z0
  have t25:tg5 (w.heap.size+2)=(m+6,0):=(hKb.tags _ hv2W.1).trans t2
  have hDl:D2<W.heap.size:=(Array.getElem?_eq_some_iff.1 hDW).1
  have tD5:tg5 D2=(m+4,0):=(hKb.tags _ hDl).trans htD
  have hD5:w5.heap[D2]?=some (.deferred (some [])):=(hKb.block D2 hDl (by rw [htD];rintro (e | e)<;>simp at e<;>omega)).trans hDW
  have hKl:Kept (fun x=>x=m∨x=od∨(m+1≤x∧x≤m+4)) tg w tg5 w5:=(Kept.of_q qwl tl0).trans (hK.trans (hKb.wider (fun x e=>by rcases e with e | e<;>simp [e])))
  have HH5:Hid (StoAt w5 tg5 o s d X ids ps∧VarN w5 (w.heap.size+2) [.int .i64 0]∧tg5 (w.heap.size+2)=(m+6,0)∧Kept (fun x=>x=m∨x=od∨(m+1≤x∧x≤m+4)) tg w tg5 w5∧S.NwOk nw (S.layC X C List.length X.keys.length)∧nw.length≤209779∧tg5 D2=(m+4,0)∧w5.heap[D2]?=some (.deferred (some []))):=⟨hS5,hv5,t25,hKl,hN,hfew,tD5,hD5⟩
  clear EN HH hK hSW hv2W hN hfew hKb hDW hDl htD z0 z2 t0 t2 hKl tD5 hD5
  by_cases hc0:c=0
  ·subst hc0
   obtain ⟨T5,bs5,ids5,ps5,g1,g2,g3,g4,g5,g6,g7,g8,g9⟩:∃ (T':S.Two) (bs':List (List Rec)) (ids ps:List Nat),LDiskAt w5 tg5 od d T'.dsk ids ps∧T'.dsk.Fine∧T'.cap=T0.cap∧T'.a=some (S.fileText bs' X.wm,(S.fileText bs' X.wm).length)∧T'.b=none∧T'.dead=false∧(T0.fuse=0→T'.fuse=0)∧S.Fil theAp bs' (S.layC X C List.length X.keys.length)∧WriAt w5 tg5 m (w.heap.size+3) d [] (S.ixsOf bs') nw:=by
    rcases hc with ⟨_,h⟩|⟨h,_⟩
    ·exact h
    ·exact absurd rfl h
   obtain ⟨a4,k4,e4,_,_⟩:=g9.nw.keys
   obtain ⟨a5,k5,e5,_,_⟩:=g9.nw.vals
   have fr:=hS5.fr
   obtain ⟨n4,m4,s4,_,_⟩:=hS5.nw.keys
   obtain ⟨n5,m5,s5,_,_⟩:=hS5.nw.vals
   obtain ⟨n6,m6,s6,_,_⟩:=hS5.pd.keys
   obtain ⟨n7,m7,s7,_,_⟩:=hS5.pd.vals
   have s2:=hS5.c2
   have s3:=hS5.c3
   simp only [List.length_map] at e4 e5 s4 s5 s6 s7
   have f3:=fr 3
   have f4:=fr 4
   have f5:=fr 5
   have f6:=fr 6
   have f7:=fr 7
   have y2:w5.cell? ⟨w.heap.size+1+1,0,none⟩=some (.int .i64 0):=hv5.cell 0 rfl
   have y3:w5.frozen? ⟨w.heap.size+1+1,0,none⟩=false:=hv5.free 0 rfl
   have HG5:Hid _:=And.intro g1 (And.intro g2 (And.intro g3 (And.intro g4 (And.intro g5 (And.intro g6 (And.intro g7 (And.intro g8 g9)))))))
   have hsl:s<w.heap.size:=HR.out.sto.top
   have hsR:s≠w.heap.size+2:=by omega
   have hs0:s≠w.heap.size:=by omega
   have HFR:Hid (∀ j,w5.frozen? ⟨s,j,none⟩=false):=fr
   clear hc g1 g2 g3 g4 g5 g6 g7 g8 g9 hS5 hv5 fr t25
   gi_wp2
   have E4:Hid (w5.cell? ⟨w.heap.size+3,4,none⟩=some (.slice a4 nw.length k4)):=e4
   have E5:Hid (w5.cell? ⟨w.heap.size+3,5,none⟩=some (.slice a5 nw.length k5)):=e5
   clear e4 e5
   obtain ⟨w6,hw6⟩:∃ w6,w6=(((w5.setCell ⟨s,4,none⟩ (.slice a4 nw.length k4)).setCell ⟨s,5,none⟩ (.slice a5 nw.length k5)).setCell ⟨s,6,none⟩ (.slice none 0 0)).setCell ⟨s,7,none⟩ (.slice none 0 0):=⟨_,rfl⟩
   have hns:∀ i j,i≠j→(⟨s,i,none⟩:Addr)≠⟨s,j,none⟩:=fun i j hij e=>by injection e with _ e2;exact hij e2
   have hj6:∀ j,j≠4→j≠5→j≠6→j≠7→w6.cell? ⟨s,j,none⟩=w5.cell? ⟨s,j,none⟩:=fun j h1 h2 h3 h4=>by
    rw [hw6,World.cell?_setCell_other _ _ _ _ (hns _ _ (by omega)),World.cell?_setCell_other _ _ _ _ (hns _ _ (by omega)),World.cell?_setCell_other _ _ _ _ (hns _ _ (by omega)),World.cell?_setCell_other _ _ _ _ (hns _ _ (by omega))]
   have h6:∀ k,k≠s→w6.heap[k]?=w5.heap[k]?:=fun k hk=>by
    rw [hw6,heap_setCell_other _ ⟨s,7,none⟩ k _ (by simpa using hk),heap_setCell_other _ ⟨s,6,none⟩ k _ (by simpa using hk),heap_setCell_other _ ⟨s,5,none⟩ k _ (by simpa using hk),heap_setCell_other _ ⟨s,4,none⟩ k _ (by simpa using hk)]
   have hfr6:∀ j,w6.frozen? ⟨s,j,none⟩=false:=fun j=>by
    rw [hw6,World.frozen?_setCell,World.frozen?_setCell,World.frozen?_setCell,World.frozen?_setCell];exact HFR.out j
   have c67:w6.cell? ⟨s,7,none⟩=some (.slice none 0 0):=by
    rw [hw6];exact World.cell?_setCell_same _ _ _ (by rw [World.cell?_setCell_other _ _ _ _ (hns _ _ (by omega)),World.cell?_setCell_other _ _ _ _ (hns _ _ (by omega)),World.cell?_setCell_other _ _ _ _ (hns _ _ (by omega))];exact s7)
   have c66:w6.cell? ⟨s,6,none⟩=some (.slice none 0 0):=by
    rw [hw6,World.cell?_setCell_other _ _ _ _ (hns _ _ (by omega))];exact World.cell?_setCell_same _ _ _ (by rw [World.cell?_setCell_other _ _ _ _ (hns _ _ (by omega)),World.cell?_setCell_other _ _ _ _ (hns _ _ (by omega))];exact s6)
   have c65:w6.cell? ⟨s,5,none⟩=some (.slice a5 nw.length k5):=by
    rw [hw6,World.cell?_setCell_other _ _ _ _ (hns _ _ (by omega)),World.cell?_setCell_other _ _ _ _ (hns _ _ (by omega))];exact World.cell?_setCell_same _ _ _ (by rw [World.cell?_setCell_other _ _ _ _ (hns _ _ (by omega))];exact s5)
   have c64:w6.cell? ⟨s,4,none⟩=some (.slice a4 nw.length k4):=by
    rw [hw6,World.cell?_setCell_other _ _ _ _ (hns _ _ (by omega)),World.cell?_setCell_other _ _ _ _ (hns _ _ (by omega)),World.cell?_setCell_other _ _ _ _ (hns _ _ (by omega))];exact World.cell?_setCell_same _ _ _ s4
   have x0:w6.cell? ⟨w.heap.size,0,none⟩=some (.pointer (some ⟨s,0,none⟩)):=(World.cell?_of_block (a:=⟨w.heap.size,0,none⟩) (h6 w.heap.size (fun e=>hs0 e.symm))).trans u0
   have x2:w6.cell? ⟨s,2,none⟩=some (.int .i64 X.wm):=(hj6 2 (by omega) (by omega) (by omega) (by omega)).trans s2
   have x3:w6.cell? ⟨s,3,none⟩=some (.int .i64 X.fl):=(hj6 3 (by omega) (by omega) (by omega) (by omega)).trans s3
   have g3:=hfr6 3
   have hb6:w6.heap[w.heap.size+2]?=w5.heap[w.heap.size+2]?:=h6 _ (fun e=>hsR e.symm)
   have yy2:w6.cell? ⟨w.heap.size+1+1,0,none⟩=some (.int .i64 0):=(World.cell?_of_block (a:=⟨w.heap.size+1+1,0,none⟩) hb6).trans y2
   have yy3:w6.frozen? ⟨w.heap.size+1+1,0,none⟩=false:=(World.frozen?_of_block (a:=⟨w.heap.size+1+1,0,none⟩) hb6).trans y3
   have hsz6:w6.heap.size=w5.heap.size:=by rw [hw6];simp
   have hos6:w6.os=w5.os∧w6.tape=w5.tape∧w6.output=w5.output:=by rw [hw6];exact ⟨rfl,rfl,rfl⟩
   have H6:Hid _:=And.intro hj6 (And.intro h6 (And.intro hfr6 (And.intro c64 (And.intro c65 (And.intro c66 (And.intro c67 (And.intro hsz6 hos6)))))))
   rw [←hw6]
   clear hw6 hj6 h6 hfr6 c64 c65 c66 c67 hsz6 hos6 hb6 s2 s3 s4 s5 s6 s7 f3 f4 f5 f6 f7 u0 y2 y3
   refine wpIn_mono ?_ NoPanic.imp
   gi_region_o
   all_goals
    refine NoPanic.normal ?_
    gi_wp2
    obtain ⟨hj6,h6,hfr6,c64,c65,c66,c67,hsz6,ho6,hta6,hou6⟩:=H6.out
    obtain ⟨hS5,hv5,t25,hKl,hN,hfew,tD5,hD5⟩:=HH5.out
    obtain ⟨g1,g2,g3,g4,g5,g6,g7,g8,g9⟩:=HG5.out
    have hDs:D2≠s:=fun e=>by have h1:=hS5.ts;rw [←e,tD5] at h1;injection h1 with h1;omega
    have hDR:D2≠w.heap.size+2:=fun e=>by rw [e,t25] at tD5;injection tD5 with e1;omega
    have hDl:D2<w5.heap.size:=(Array.getElem?_eq_some_iff.1 hD5).1
    obtain ⟨w8,hw8⟩:∃ w8,w8=((w6.setCell ⟨s,3,none⟩ (.int .i64 X.wm)).setCell ⟨w.heap.size+1+1,0,none⟩ (.int .i64 0)).drew:=⟨_,rfl⟩
    have qd:Q ((w6.setCell ⟨s,3,none⟩ (.int .i64 X.wm)).setCell ⟨w.heap.size+1+1,0,none⟩ (.int .i64 0)) w8:=by rw [hw8];exact (Q.refl _).drew
    have hsz8:w5.heap.size≤w8.heap.size:=by have:=qd.below.size;simp at this;omega
    have h8:∀ k,k<w5.heap.size→k≠s→k≠w.heap.size+2→w8.heap[k]?=w5.heap[k]?:=fun k hk h1 h2=>by
     rw [qd.below.block k (by simp;omega),heap_setCell_other _ ⟨w.heap.size+1+1,0,none⟩ k _ (by simpa using h2),heap_setCell_other _ ⟨s,3,none⟩ k _ (by simpa using h1)]
     exact h6 k h1
    have hsl5:s<w5.heap.size:=hS5.top
    have h8s:w8.heap[s]?=(w6.setCell ⟨s,3,none⟩ (.int .i64 X.wm)).heap[s]?:=by
     rw [qd.below.block s (by simp;omega),heap_setCell_other _ ⟨w.heap.size+1+1,0,none⟩ s _ (by simpa using hsR)]
    have c8:∀ j,w8.cell? ⟨s,j,none⟩=(w6.setCell ⟨s,3,none⟩ (.int .i64 X.wm)).cell? ⟨s,j,none⟩:=fun j=>World.cell?_of_block (a:=⟨s,j,none⟩) h8s
    have f8:∀ j,w8.frozen? ⟨s,j,none⟩=false:=fun j=>by
     rw [World.frozen?_of_block (a:=⟨s,j,none⟩) h8s,World.frozen?_setCell];exact hfr6 j
    have c8o:∀ j,j≠3→w8.cell? ⟨s,j,none⟩=w6.cell? ⟨s,j,none⟩:=fun j hj=>by rw [c8 j,World.cell?_setCell_other _ _ _ _ (hns _ _ (by omega))]
    have c83:w8.cell? ⟨s,3,none⟩=some (.int .i64 X.wm):=by rw [c8 3];exact World.cell?_setCell_same _ _ _ x3
    have c8R:w8.cell? ⟨w.heap.size+1+1,0,none⟩=some (.int .i64 0):=kept_cell (World.cell?_setCell_same _ _ _ (by rw [World.cell?_setCell_other _ _ _ _ (by intro e;injection e with e1;omega)];exact yy2)) qd
    have hD8:w8.heap[D2]?=some (.deferred (some [])):=(h8 D2 hDl hDs hDR).trans hD5
    have hcell:(w8.putObj D2 (.deferred none)).cell? ⟨w.heap.size+1+1,0,none⟩=some (.int .i64 0):=(World.cell?_of_block (a:=⟨w.heap.size+1+1,0,none⟩) (World.putObj_heap_other (fun e=>hDR e.symm))).trans c8R
    have hps:(w8.putObj D2 (.deferred none)).heap[s]?=w8.heap[s]?:=World.putObj_heap_other (fun e=>hDs e.symm)
    have pc:∀ j,(w8.putObj D2 (.deferred none)).cell? ⟨s,j,none⟩=w8.cell? ⟨s,j,none⟩:=fun j=>World.cell?_of_block (a:=⟨s,j,none⟩) hps
    have hpg:=grownBy_putObj' w8 D2 (.deferred none)
    have HE:Hid (LayEnd w tg o od m s d T0 X (S.layC X C List.length X.keys.length) bad (.returned (.int .i64 0)) (w8.putObj D2 (.deferred none))):=by
     refine layEnd_good (ow:=m) (B:=w.heap.size+3) (W:=w5) (P:=fun x=>x=m∨x=od∨(m+1≤x∧x≤m+4)) (Z:=fun k=>k=w.heap.size+2∨k=D2) HR.out.low hom hodm hG (by omega) (by omega) hne hKl (fun k hk e=>by have:=HR.out.low k hk;rcases e with e | e | e<;>first | omega | exact Or.inr e) hS5 hsl g9 (fun k hk e=>by have:=HR.out.low k hk;omega) g1 g2 ?_ (Nat.le_trans hsz8 hpg.size) ?_ ?_ ?_ ?_ ?_ ?_ ?_ ?_ ?_ ?_ ?_ g8 hN hfew g3 g4 g5 g6 g7
     ·rintro k (e|e)
      ·subst e;rw [t25];exact ⟨by omega,by simp;omega,by simp⟩
      ·subst e;rw [tD5];exact ⟨by omega,by simp;omega,by simp⟩
     ·exact hpg.os.trans (qd.below.os.trans ho6)
     ·exact hpg.tape.trans (qd.below.tape.trans hta6)
     ·exact hpg.output.trans (qd.below.output.trans hou6)
     ·intro k hk h1 h2
      rw [World.putObj_heap_other (fun e=>h2 (Or.inr e))]
      exact h8 k hk h1 (fun e=>h2 (Or.inl e))
     ·intro j
      rw [World.frozen?_of_block (a:=⟨s,j,none⟩) hps]
      exact f8 j
     ·intro j hj
      rw [pc j,c8o j (by omega)]
      exact hj6 j (by omega) (by omega) (by omega) (by omega)
     ·rw [pc 3];exact c83
     ·rw [pc 4,c8o 4 (by omega),c64];exact E4.out.symm
     ·rw [pc 5,c8o 5 (by omega),c65];exact E5.out.symm
     ·rw [pc 6,c8o 6 (by omega)];exact c66
     ·rw [pc 7,c8o 7 (by omega)];exact c67
    refine ⟨by simp,.inl ⟨_,_,rfl,run_takeDeferred (by rw [←hw8];exact hD8),?_⟩⟩
    rw [←hw8]
    exact ⟨_,by simp [results,Tryz.results37,go_sem,hcell],HE.out⟩
  ·have hcI:¬(c:Int)=0:=by omega
   have hcb:((c:Int) != 0)=true:=by simp [hc0]
   have hst:Stopped w5 tg5 od d T0 (S.layC X C List.length X.keys.length) c:=by
    rcases hc with ⟨h,_⟩|⟨_,h⟩
    ·exact absurd h hc0
    ·exact h
   have GU:Hid _:=fun (_:Unit)=>giveUp_s hS5 (hst.stop3 bad) hne
   clear hc hc0 hst hS5 hv5 t25
   gi_wp2
   refine ⟨trivial,(callsIn_wide.2 (GU.out ())).mono ?_⟩
   rintro e w6 ⟨c1,tg6,X6,T6,ids6,ps6,rfl,hK6,hS6,hD6,hF6,hB6⟩
   obtain ⟨hS5,hv5,t25,hKl,hN,hfew,tD5,hD5⟩:=HH5.out
   have hDl:D2<w5.heap.size:=(Array.getElem?_eq_some_iff.1 hD5).1
   have hv6:VarN w6 (w.heap.size+2) [.int .i64 0]:=hv5.of_block (hK6.block _ hv5.1 (by rw [t25];rintro (e | e)<;>simp at e<;>omega)) hK6.size
   have t26:tg6 (w.heap.size+2)=(m+6,0):=(hK6.tags _ hv5.1).trans t25
   have tD6:tg6 D2=(m+4,0):=(hK6.tags _ hDl).trans tD5
   have hDW6:w6.heap[D2]?=some (.deferred (some [])):=(hK6.block D2 hDl (by rw [tD5];rintro (e | e)<;>simp at e<;>omega)).trans hD5
   have u2:w6.cell? ⟨w.heap.size+1+1,0,none⟩=some (.int .i64 0):=hv6.cell 0 rfl
   have u3:w6.frozen? ⟨w.heap.size+1+1,0,none⟩=false:=hv6.free 0 rfl
   have hset:=Kept.set (w:=w6) (tg:=tg6) (R:=w.heap.size+2) (r:=m+6) (by rw [t26]) (.int .i64 (c1:Int))
   have hput:=Kept.put (P:=(·=m+4)) (tg:=tg6) (A:=w6.setCell ⟨w.heap.size+1+1,0,none⟩ (.int .i64 (c1:Int))) (l:=D2) (by rw [tD6]) (.deferred none)
   have hDR:D2≠w.heap.size+2:=fun e=>by rw [e,t26] at tD6;injection tD6 with e1;omega
   have hDW7:(w6.setCell ⟨w.heap.size+1+1,0,none⟩ (.int .i64 (c1:Int))).heap[D2]?=some (.deferred (some [])):=(heap_setCell_other _ ⟨w.heap.size+1+1,0,none⟩ D2 _ (by simpa using hDR)).trans hDW6
   have hcell:((w6.setCell ⟨w.heap.size+1+1,0,none⟩ (.int .i64 (c1:Int))).putObj D2 (.deferred none)).cell? ⟨w.heap.size+1+1,0,none⟩=some (.int .i64 (c1:Int)):=(World.cell?_of_block (a:=⟨w.heap.size+1+1,0,none⟩) (World.putObj_heap_other (fun e=>hDR e.symm))).trans (World.cell?_setCell_same _ _ _ u2)
   have HE:Hid (LayEnd w tg o od m s d T0 X (S.layC X C List.length X.keys.length) bad (.returned (.int .i64 (c1:Int))) ((w6.setCell ⟨w.heap.size+1+1,0,none⟩ (.int .i64 (c1:Int))).putObj D2 (.deferred none))):=
    layEnd_bad (ow:=m) (P:=fun x=>x=m∨x=od∨(m+1≤x∧x≤m+4)∨x=o∨x=m+6) HR.out.low hom hodm hG (by omega) (by omega) ((((hKl.wider (fun x e=>by rcases e with e | e | e<;>simp [e])).trans (hK6.wider (fun x e=>by rcases e with e | e<;>simp [e]))).trans (hset.wider (fun x e=>by simp [e]))).trans (hput.wider (fun x e=>by simp [e]))) (fun k hk e=>by have:=HR.out.low k hk;rcases e with e | e | e | e | e<;>first | omega | exact Or.inl e | exact Or.inr e)
     ((hS6.keep hset.size hset.tags (fun j hj e=>hset.block j hj (by rw [e];omega))).keep hput.size hput.tags (fun j hj e=>hput.block j hj (by rw [e];omega))) ((hD6.keep hset.size hset.tags (fun j hj e=>hset.block j hj (by rw [e];omega))).keep hput.size hput.tags (fun j hj e=>hput.block j hj (by rw [e];omega))) hF6 hB6
   clear GU hK6 hS6 hD6 hF6 hB6 hv6 t26 hset hput hS5 hv5 t25 hKl tD6 tD5 hD5 hDW6
   gi_wp2
   refine ⟨by simp,.inl ⟨_,_,rfl,run_takeDeferred hDW7,?_⟩⟩
   exact ⟨_,by simp [results,Tryz.results37,go_sem,hcell],HE.out⟩
 case stop =>
  rintro D2 c tg1 i W hD2 ⟨rfl,hx⟩ htD hDW
  gi_wp2
  refine ⟨by simp,.inl ⟨_,_,rfl,run_takeDeferred hDW,?_⟩⟩
  obtain ⟨c,X',T',ids6,ps6,hcell0,hK,hS,hD,hF,hB⟩:=hx
  have hput:=Kept.put (P:=(·=m+4)) (tg:=tg1) (A:=W) (l:=D2) (by rw [htD]) (.deferred none)
  have t2:tg1 (w.heap.size+2)=(m+6,0):=(hK.tags _ (by omega)).trans tlR
  have hDR:w.heap.size+2≠D2:=fun e=>by rw [←e,t2] at htD;injection htD with e1;omega
  have hcell:(W.putObj D2 (.deferred none)).cell? ⟨w.heap.size+1+1,0,none⟩=some (.int .i64 (c:Int)):=(World.cell?_of_block (a:=⟨w.heap.size+1+1,0,none⟩) (World.putObj_heap_other hDR)).trans hcell0
  exact ⟨_,by simp [results,Tryz.results37,go_sem,hcell],layEnd_bad (ow:=m) (P:=fun x=>x=m∨x=od∨(m+1≤x∧x≤m+4)∨x=o∨x=m+6) HR.out.low hom hodm hG (by omega) (by omega) ((Kept.of_q qwl tl0).trans (hK.trans (hput.wider (fun x e=>by simp [e])))) (fun k hk e=>by have:=HR.out.low k hk;rcases e with e | e | e | e | e<;>first | omega | exact Or.inl e | exact Or.inr e) (hS.keep hput.size hput.tags (fun j hj e=>hput.block j hj (by rw [e];omega))) (hD.keep hput.size hput.tags (fun j hj e=>hput.block j hj (by rw [e];omega))) hF hB⟩
end Go.Proofs.YtekdenkllipehabGreatDoor
