import Derived.Test.YtekdenkllipehabGreatDoorK20
import Derived.Test.YtekdenkllipehabGreatDoorK34
set_option maxRecDepth 100000
set_option maxHeartbeats 8000000
namespace Go.Proofs.YtekdenkllipehabGreatDoor
open Go.RowKit
def RMapNew (tg:Tags) (o p u:Nat) (rs:List Rec) (w w':World):Prop:=
 ∃ tg':Tags,(∀ k,k<w.heap.size→tg' k=tg k)∧RMap w' tg' o p u rs∧KOnly tg o p 0 u w w'
theorem rmap_turned {tg:Tags} {o p u:Nat} {w wa wb:World} (hq:RowTurned tg o p 0 u w wa) (hr:RowTurned (tg.more w.heap.size o u) o p 1 (u+1) wa wb) (hd:tg p≠(o,u)∧tg p≠(o,u+1)) (htop:p<w.heap.size)
  {rs:List Rec} {v1 v2:Value}
  (k1:wa.cell? ⟨p,0,none⟩=some v1) (k2:wa.ownsRow 0 3 1 v1 rs.length (intVals (stampsOf rs))) (k3:∀ g,v1.ownBlock=some g→(tg.more w.heap.size o u) g=(o,u))
  (l1:wb.cell? ⟨p,1,none⟩=some v2) (l2:wb.ownsRow 0 62 4 v2 rs.length (recCells rs)) (l3:∀ g,v2.ownBlock=some g→((tg.more w.heap.size o u).more wa.heap.size o (u+1)) g=(o,u+1)) :
  RMapNew tg o p u rs w wb:=by
 have hold:∀ k,k<w.heap.size→((tg.more w.heap.size o u).more wa.heap.size o (u+1)) k=tg k:=fun k hk=>by rw [Tags.more_old (Nat.lt_of_lt_of_le hk hq.size),Tags.more_old hk]
 obtain ⟨a1,c1,rfl⟩:=own_form k2
 obtain ⟨a2,c2,rfl⟩:=own_form l2
 refine ⟨_,hold,⟨Nat.lt_of_lt_of_le htop (Nat.le_trans hq.size hr.size),⟨a1,c1,(hr.cell 0 (by omega)).trans k1,row_keep k2 (fun g hg=>hr.block g (k2.lt g hg).2 (fun e=>?_) (fun e=>?_)),fun g hg=>?_⟩,⟨a2,c2,l1,l2,l3⟩⟩,⟨hr.os.trans hq.os,hr.tape.trans hq.tape,hr.output.trans hq.output,Nat.le_trans hq.size hr.size,fun k hk h0 h1 h2=>?_,fun j h1 h2=>(hr.cell j h2).trans (hq.cell j h1),fun j=>(hr.fr j).trans (hq.fr j)⟩⟩
 ·have:=k3 g hg
  rw [e,Tags.more_old htop] at this
  exact hd.1 this
 ·have:=k3 g hg
  rw [this] at e
  injection e
  omega
 ·rw [Tags.more_old (k2.lt g hg).2]
  exact k3 g hg
 ·rw [hr.block k (Nat.lt_of_lt_of_le hk hq.size) h0 (by rw [Tags.more_old hk];exact h2)]
  exact hq.block k hk h0 h1
theorem RMapNew.after {tg:Tags} {o p u:Nat} {rs:List Rec} {w w1 w':World} (h:RMapNew tg o p u rs w1 w') (q:Q w w1) (hd:p<w.heap.size):RMapNew tg o p u rs w w':=by
 obtain ⟨tg',h1,h2,h3⟩:=h
 have hs:=q.below.size
 have hdb:=q.below.block p hd
 exact ⟨tg',fun k hk=>h1 k (Nat.lt_of_lt_of_le hk hs),h2,⟨h3.os.trans q.below.os,h3.tape.trans q.below.tape,h3.output.trans q.below.output,Nat.le_trans hs h3.size,fun k hk a b c=>(h3.block k (Nat.lt_of_lt_of_le hk hs) a b c).trans (q.below.block k hk),fun j h1 h2=>(h3.cell j h1 h2).trans (World.cell?_of_block (a:=⟨p,j,none⟩) hdb),fun j=>(h3.fr j).trans (World.frozen?_of_block (a:=⟨p,j,none⟩) hdb)⟩⟩
theorem lowS_end {rs:List Rec} {x:Int} (h:∀ r∈rs,r.stamp<x):lowS rs x=rs.length∧hasS rs x=false:=by
 constructor
 ·unfold lowS
  have:(stampsOf rs).countP (fun y=>decide (y<x))=(stampsOf rs).length:=by
   rw [List.countP_eq_length]
   intro y hy
   unfold stampsOf at hy
   rw [List.mem_map] at hy
   obtain ⟨z,hz,rfl⟩:=hy
   simpa using h z hz
  simpa using this
 ·unfold hasS
  rw [Bool.eq_false_iff]
  intro hc
  rw [List.contains_iff_mem] at hc
  unfold stampsOf at hc
  rw [List.mem_map] at hc
  obtain ⟨z,hz,he⟩:=hc
  have:=h z hz
  omega
theorem intVals_one (l:List Int):∀ x∈intVals l,x.oneCell'=true:=fun x hx=>by
 simp only [intVals,List.mem_map] at hx
 obtain ⟨_,_,rfl⟩:=hx
 rfl
theorem rPut (tg:Tags) (o p u:Nat) (rs:List Rec) (r:Rec) (hs:S.Up rs) (hl:rs.length≤1048575) (hr:∀ x∈rs,x.stamp<r.stamp) (w:World) (h:RMap w tg o p u rs) (hd:tg p≠(o,u)∧tg p≠(o,u+1)) (hfr:w.frozen? ⟨p,0,none⟩=false∧w.frozen? ⟨p,1,none⟩=false) :
  Calls Tryz.prog 54 #[.pointer (some ⟨p,0,none⟩),.int .i64 r.stamp,r.val] w fun e w'=>e=.returned (.tuple #[])∧RMapNew tg o p u (rs++[r]) w w':=by
 have HM:Hid (RMap w tg o p u rs):=h
 have htop:=h.top
 obtain ⟨a1,k1,r1,r2,r3⟩:=h.keys
 obtain ⟨b2,c2,y1,y2,y3⟩:=h.vals
 have r1a:=kept_cell r1 ((Q.refl w).alloc #[.string r.key,.int .i64 r.stamp,.int .i64 r.kind,.string r.body] 62)
 have HB:Hid _:=fun (_:Unit)=>bsearchI rs hs (by omega) r.stamp a1 k1 (w.alloc (.cells #[.string r.key,.int .i64 r.stamp,.int .i64 r.kind,.string r.body] 62)) (r2.alloc _)
 rw [(lowS_end hr).1,(lowS_end hr).2] at HB
 have HFr:Hid (w.frozen? ⟨p,0,none⟩=false∧w.frozen? ⟨p,1,none⟩=false):=hfr
 have HDt:Hid (tg p≠(o,u)∧tg p≠(o,u+1)):=hd
 unfold Rec.val
 have HNb:Hid ((Value.slice a1 rs.length k1).ownBlock≠some w.heap.size):=fun e=>by have:=(r2.lt _ e).2;omega
 have HK:Hid _:=And.intro r2 r3
 have HY:Hid _:=And.intro y1 (And.intro y2 y3)
 clear h r2 r3 hfr hd hs hr y1 y2 y3
 go_enter Tryz.func54,Tryz.ntmps54
 go_wp2_with fail
 refine (HB.out ()).mono ?_
 rintro e w1 ⟨rfl,q1'⟩
 have q1:Q w w1:=((Q.refl w).alloc _ _).trans q1'
 have hBx:=(varN_new w [.string r.key,.int .i64 r.stamp,.int .i64 r.kind,.string r.body] 62).kept q1'
 have HBx:Hid (VarN w1 w.heap.size [.string r.key,.int .i64 r.stamp,.int .i64 r.kind,.string r.body]):=hBx
 have hm1:=HM.out.kept q1
 have s1:=kept_cell r1 q1
 have s2:=own_below HK.out.1 q1.below
 have hf1:w1.frozen? ⟨p,0,none⟩=false:=(q1.below.frozen (p:=⟨p,0,none⟩) htop).trans HFr.out.1
 have HFr2:Hid (w1.frozen? ⟨p,1,none⟩=false):=(q1.below.frozen (p:=⟨p,1,none⟩) htop).trans HFr.out.2
 have HI:Hid _:=fun (_:Unit)=>insertEndE (.slice a1 rs.length k1) rs.length (intVals (stampsOf rs)) w1.heap.size (.int .i64 r.stamp) (w1.alloc (.cells #[.int .i64 r.stamp] 3)) (by omega) (s2.alloc _) rfl (alloc_cells_new w1 (.int .i64 r.stamp) 3)
 have HM1:Hid (RMap w1 tg o p u rs):=hm1
 have HQ1:Hid (Q w w1):=q1
 clear HB s2 hm1 q1 q1' hBx r1 r1a
 go_wp2_with fail
 refine (HI.out ()).mono ?_
 rintro e w2 ⟨v1,rfl,t2,t3,t4⟩
 have hgr:=(grown_alloc w1 (.cells #[.int .i64 r.stamp] 3) (Value.slice a1 rs.length k1).ownBlock).trans t3
 have T1:=rowTurned (w:=w1) (tg:=tg) (o:=o) (d:=p) (c:=0) (u:=u) HDt.out.1 HM1.out.top s1 HK.out.2 hgr t2 (t4.imp id (fun ⟨g,h1,h2⟩=>⟨g,h1,by simp at h2;omega⟩))
 obtain ⟨x1,x2,rfl⟩:=own_form t2
 have hc1:w2.cell? ⟨p,0,none⟩=_:=(T1.2.2.2.2.1 0).trans s1
 have hf1':=(T1.2.2.2.2.2 0).trans hf1
 have hf2':=(T1.2.2.2.2.2 1).trans HFr2.out
 obtain ⟨Wa,hWa⟩:∃ Wa,Wa=w2.setCell ⟨p,0,none⟩ (.slice x1 (rs.length+1) x2):=⟨_,rfl⟩
 have y1:=kept_cell HY.out.1 HQ1.out
 have y2:=own_below HY.out.2.1 HQ1.out.below
 have y3:=HY.out.2.2
 have hV1:Wa.cell? ⟨p,1,none⟩=some (.slice b2 rs.length c2):=by rw [hWa];exact (T1.1.cell 1 (by omega)).trans y1
 have hV2:Wa.ownsRow 0 62 4 (.slice b2 rs.length c2) rs.length (recCells rs):=by rw [hWa];exact row_keep y2 (fun g hg=>T1.1.block g (y2.lt g hg).2 (fun e=>HDt.out.2 (by rw [←e];exact y3 g hg)) (fun e=>by have:=y3 g hg;rw [this] at e;injection e;omega))
 have hBa:VarN Wa w.heap.size [.string r.key,.int .i64 r.stamp,.int .i64 r.kind,.string r.body]:=by rw [hWa];exact (HBx.out.grown hgr HNb.out).other (by omega) 0 _
 have hlt2:∀ g,(Value.slice b2 rs.length c2).ownBlock=some g→(tg.more w1.heap.size o u) g=(o,u+1):=fun g hg=>by rw [Tags.more_old (y2.lt g hg).2];exact y3 g hg
 have hwz:Wa.heap.size=w2.heap.size:=by rw [hWa];simp
 have HI2:Hid _:=fun (_:Unit)=>insertEndR (.slice b2 rs.length c2) rs.length (recCells rs) w2.heap.size r (Wa.drew.alloc (.cells #[.string r.key,.int .i64 r.stamp,.int .i64 r.kind,.string r.body] 62)) (by omega) ((own_below hV2 ((Q.refl Wa).drew).below).alloc _) (by rw [←hwz];exact rec_cells_at Wa.drew r 62)
 have m0:=hBa.cell 0 rfl
 have m1:=hBa.cell 1 rfl
 have m2:=hBa.cell 2 rfl
 have m3:=hBa.cell 3 rfl
 have HBa:Hid (VarN Wa w.heap.size [.string r.key,.int .i64 r.stamp,.int .i64 r.kind,.string r.body]):=hBa
 have HNy:Hid ((Value.slice b2 rs.length c2).ownBlock≠some w.heap.size):=fun e=>by have:=(HY.out.2.1.lt _ e).2;omega
 have HT1:Hid _:=T1
 have HV:Hid _:=And.intro hV1 hV2
 have HL2:Hid _:=hlt2
 have HWa:Hid (Wa=w2.setCell ⟨p,0,none⟩ (.slice x1 (rs.length+1) x2)):=hWa
 have hfa:Wa.frozen? ⟨p,1,none⟩=false:=by rw [hWa,World.frozen?_setCell];exact hf2'
 have HFa:Hid (Wa.frozen? ⟨p,1,none⟩=false):=hfa
 clear HI T1 t2 t3 t4 hV2 hlt2 y1 y2 y3 hgr hBa HBx s1 hwz
 rw [hWa] at hV1 m0 m1 m2 m3 hfa HI2
 have hS0:(w2.setCell ⟨p,0,none⟩ (.slice x1 (rs.length+1) x2)).drew.cell? ⟨w.heap.size,0,none⟩=some (.string r.key)∧(w2.setCell ⟨p,0,none⟩ (.slice x1 (rs.length+1) x2)).drew.cell? ⟨w.heap.size,1,none⟩=some (.int .i64 r.stamp)∧(w2.setCell ⟨p,0,none⟩ (.slice x1 (rs.length+1) x2)).drew.cell? ⟨w.heap.size,2,none⟩=some (.int .i64 r.kind)∧(w2.setCell ⟨p,0,none⟩ (.slice x1 (rs.length+1) x2)).drew.cell? ⟨w.heap.size,3,none⟩=some (.string r.body):=⟨kept_cell m0 (Q.refl _).drew,kept_cell m1 (Q.refl _).drew,kept_cell m2 (Q.refl _).drew,kept_cell m3 (Q.refl _).drew⟩
 have hV1d:=kept_cell hV1 (Q.refl _).drew
 go_upto_region 5 with fail
 refine wp_region_held_drew (S:=fun w'=>w'.cell? ⟨w.heap.size,0,none⟩=some (.string r.key)∧w'.cell? ⟨w.heap.size,1,none⟩=some (.int .i64 r.stamp)∧w'.cell? ⟨w.heap.size,2,none⟩=some (.int .i64 r.kind)∧w'.cell? ⟨w.heap.size,3,none⟩=some (.string r.body)) (by kernel_rfl) hS0 (fun hHeld=>?_)
 refine tk3 (i:=0) (v:=?_) rfl (Or.inl ⟨by kernel_rfl,?_⟩) hHeld ?_
 rotate_left
 ·(intro w hSw;(try dsimp only at hSw);go_simp;try with_reducible rfl)
 try simp only [Act.put,nrm]
 refine tk3 (i:=1) (v:=?_) rfl (Or.inl ⟨by kernel_rfl,?_⟩) hHeld ?_
 rotate_left
 ·(intro w hSw;(try dsimp only at hSw);go_simp;try with_reducible rfl)
 try simp only [Act.put,nrm]
 refine tk3 (i:=2) (v:=?_) rfl (Or.inl ⟨by kernel_rfl,?_⟩) hHeld ?_
 rotate_left
 ·(intro w hSw;(try dsimp only at hSw);go_simp;try with_reducible rfl)
 try simp only [Act.put,nrm]
 refine tk3 (i:=3) (v:=?_) rfl (Or.inl ⟨by kernel_rfl,?_⟩) hHeld ?_
 rotate_left
 ·(intro w hSw;(try dsimp only at hSw);go_simp;try with_reducible rfl)
 try simp only [Act.put,nrm]
 refine tk3 (i:=5) (v:=?_) rfl (Or.inl ⟨by kernel_rfl,?_⟩) hHeld ?_
 rotate_left
 ·(intro w hSw;(try dsimp only at hSw);go_simp;try with_reducible rfl)
 try simp only [Act.put,nrm]
 refine tk3 (i:=6) (v:=?_) rfl (Or.inl ⟨by kernel_rfl,?_⟩) hHeld ?_
 rotate_left
 ·(intro w hSw;(try dsimp only at hSw);go_simp;try with_reducible rfl)
 try simp only [Act.put,nrm]
 refine wpAnyH_ready (rs:=[4,7]) (by kernel_rfl) (by simp) ?_
 refine AllReadyH.cons rfl (fun K hK=>?_) ?_
 ·go_simp
  refine hK.out _ _ hHeld (fun hHeld0=>?_)
  clear hK K hHeld
  have hHeld:=hHeld0
  clear hHeld0
  try simp only [Act.put,nrm]
  refine wpAnyH_ready (rs:=[7]) (by kernel_rfl) (by simp) ?_
  refine AllReadyH.cons rfl (fun K hK=>?_) AllReadyH.nil
  go_simp
  refine hK.out _ _ ⟨kept_cell hHeld.1 ((Q.refl _).alloc _ _),kept_cell hHeld.2.1 ((Q.refl _).alloc _ _),kept_cell hHeld.2.2.1 ((Q.refl _).alloc _ _),kept_cell hHeld.2.2.2 ((Q.refl _).alloc _ _)⟩ (fun hHeld0=>?_)
  clear hK K hHeld
  have hHeld:=hHeld0
  clear hHeld0
  try simp only [Act.put,nrm]
  refine wpAnyH_ready (rs:=[8]) (by kernel_rfl) (by simp) ?_
  refine AllReadyH.cons rfl (fun K hK=>?_) AllReadyH.nil
  go_simp
  refine (HI2.out ()).mono ?_
  rintro e w3 ⟨v2,rfl,t2,t3,t4⟩
  have hgr3:=grown_undrew ((grown_alloc (w2.setCell ⟨p,0,none⟩ (.slice x1 (rs.length+1) x2)).drew (.cells #[.string r.key,.int .i64 r.stamp,.int .i64 r.kind,.string r.body] 62) (Value.slice b2 rs.length c2).ownBlock).trans t3)
  rw [←HWa.out] at hgr3
  have T2:=rowTurned (w:=Wa) (tg:=tg.more w1.heap.size o u) (o:=o) (d:=p) (c:=1) (u:=u+1) (by rw [Tags.more_old HM1.out.top];exact HDt.out.2) (by rw [HWa.out];exact Nat.lt_of_lt_of_le HM1.out.top HT1.out.1.size) HV.out.1 HL2.out hgr3 t2 (t4.imp id (fun ⟨g,h1,h2⟩=>⟨g,h1,by rw [HWa.out];simp at h2 ⊢;omega⟩))
  obtain ⟨x3,x4,rfl⟩:=own_form t2
  have hc3:=(T2.2.2.2.2.1 1).trans HV.out.1
  have hf3:=(T2.2.2.2.2.2 1).trans HFa.out
  have hBw:=(HBa.out.grown hgr3 HNy.out)
  have HF:Hid (RMapNew tg o p u (rs++[r]) w (w3.setCell ⟨p,1,none⟩ (.slice x3 (rs.length+1) x4))):=by
   obtain ⟨z1,z2,z3,z4,_⟩:=HT1.out
   obtain ⟨u1,u2,u3,u4,_⟩:=T2
   have e1:insAt (intVals (stampsOf rs)) rs.length (.int .i64 r.stamp)=intVals (stampsOf (rs++[r])):=by unfold insAt;rw [List.take_of_length_le (by simp [intVals]),List.drop_of_length_le (by simp [intVals])];simp [intVals,stampsOf]
   have e2:recCells rs++r.cells=recCells (rs++[r]):=by rw [recCells_append,recCells_one]
   have e3:(rs++[r]).length=rs.length+1:=by simp
   rw [e1] at z3
   rw [e2] at u3
   rw [HWa.out] at u1 u4
   exact RMapNew.after (rmap_turned z1 u1 HDt.out HM1.out.top z2 (by rw [e3];exact z3) z4 u2 (by rw [e3];exact u3) u4) HQ1.out HM.out.top
  clear T2 t2 t3 t4 hgr3
  try go_wp2_with fail
  refine hK.out _ _ ⟨hBw.cell 0 rfl,hBw.cell 1 rfl,hBw.cell 2 rfl,hBw.cell 3 rfl⟩ (fun hHeld0=>?_)
  clear hK K hHeld
  have hHeld:=hHeld0
  clear hHeld0
  try simp only [Act.put,nrm]
  refine tk3 (i:=9) (v:=?_) rfl (Or.inl ⟨by kernel_rfl,?_⟩) hHeld ?_
  rotate_left
  ·(intro w hSw;(try dsimp only at hSw);go_simp;try with_reducible rfl)
  try simp only [Act.put,nrm]
  refine tk3 (i:=10) (v:=?_) rfl (Or.inl ⟨by kernel_rfl,?_⟩) hHeld ?_
  rotate_left
  ·(intro w hSw;(try dsimp only at hSw);go_simp;try with_reducible rfl)
  try simp only [Act.put,nrm]
  have hBo:=hBw.other (by omega:w.heap.size≠p) 1 (.slice x3 (rs.length+1) x4)
  refine wpAnyH_ready (rs:=[11]) (by kernel_rfl) (by simp) ?_
  refine AllReadyH.cons rfl (fun K hK=>?_) AllReadyH.nil
  go_simp
  refine hK.out _ _ ⟨hBo.cell 0 rfl,hBo.cell 1 rfl,hBo.cell 2 rfl,hBo.cell 3 rfl⟩ (fun hHeld0=>?_)
  clear hK K hHeld hHeld0
  refine wpAnyH_done (by kernel_rfl) ?_ _
  go_wp2_with fail
  go_end0
  exact ⟨rfl,HF.out⟩
 refine AllReadyH.cons rfl (fun K hK=>?_) AllReadyH.nil
 go_simp
 refine hK.out _ _ ⟨kept_cell hHeld.1 ((Q.refl _).alloc _ _),kept_cell hHeld.2.1 ((Q.refl _).alloc _ _),kept_cell hHeld.2.2.1 ((Q.refl _).alloc _ _),kept_cell hHeld.2.2.2 ((Q.refl _).alloc _ _)⟩ (fun hHeld0=>?_)
 clear hK K hHeld
 have hHeld:=hHeld0
 clear hHeld0
 try simp only [Act.put,nrm]
 have hV1e:=kept_cell hV1 ((Q.refl _).alloc #[.string r.key,.int .i64 r.stamp,.int .i64 r.kind,.string r.body] 62)
 refine wpAnyH_ready (rs:=[4]) (by kernel_rfl) (by simp) ?_
 refine AllReadyH.cons rfl (fun K hK=>?_) AllReadyH.nil
 go_simp
 refine hK.out _ _ hHeld (fun hHeld0=>?_)
 clear hK K hHeld
 have hHeld:=hHeld0
 clear hHeld0
 try simp only [Act.put,nrm]
 refine wpAnyH_ready (rs:=[8]) (by kernel_rfl) (by simp) ?_
 refine AllReadyH.cons rfl (fun K hK=>?_) AllReadyH.nil
 go_simp
 refine (HI2.out ()).mono ?_
 rintro e w3 ⟨v2,rfl,t2,t3,t4⟩
 have hgr3:=grown_undrew ((grown_alloc (w2.setCell ⟨p,0,none⟩ (.slice x1 (rs.length+1) x2)).drew (.cells #[.string r.key,.int .i64 r.stamp,.int .i64 r.kind,.string r.body] 62) (Value.slice b2 rs.length c2).ownBlock).trans t3)
 rw [←HWa.out] at hgr3
 have T2:=rowTurned (w:=Wa) (tg:=tg.more w1.heap.size o u) (o:=o) (d:=p) (c:=1) (u:=u+1) (by rw [Tags.more_old HM1.out.top];exact HDt.out.2) (by rw [HWa.out];exact Nat.lt_of_lt_of_le HM1.out.top HT1.out.1.size) HV.out.1 HL2.out hgr3 t2 (t4.imp id (fun ⟨g,h1,h2⟩=>⟨g,h1,by rw [HWa.out];simp at h2 ⊢;omega⟩))
 obtain ⟨x3,x4,rfl⟩:=own_form t2
 have hc3:=(T2.2.2.2.2.1 1).trans HV.out.1
 have hf3:=(T2.2.2.2.2.2 1).trans HFa.out
 have hBw:=(HBa.out.grown hgr3 HNy.out)
 have HF:Hid (RMapNew tg o p u (rs++[r]) w (w3.setCell ⟨p,1,none⟩ (.slice x3 (rs.length+1) x4))):=by
  obtain ⟨z1,z2,z3,z4,_⟩:=HT1.out
  obtain ⟨u1,u2,u3,u4,_⟩:=T2
  have e1:insAt (intVals (stampsOf rs)) rs.length (.int .i64 r.stamp)=intVals (stampsOf (rs++[r])):=by unfold insAt;rw [List.take_of_length_le (by simp [intVals]),List.drop_of_length_le (by simp [intVals])];simp [intVals,stampsOf]
  have e2:recCells rs++r.cells=recCells (rs++[r]):=by rw [recCells_append,recCells_one]
  have e3:(rs++[r]).length=rs.length+1:=by simp
  rw [e1] at z3
  rw [e2] at u3
  rw [HWa.out] at u1 u4
  exact RMapNew.after (rmap_turned z1 u1 HDt.out HM1.out.top z2 (by rw [e3];exact z3) z4 u2 (by rw [e3];exact u3) u4) HQ1.out HM.out.top
 clear T2 t2 t3 t4 hgr3
 try go_wp2_with fail
 refine hK.out _ _ ⟨hBw.cell 0 rfl,hBw.cell 1 rfl,hBw.cell 2 rfl,hBw.cell 3 rfl⟩ (fun hHeld0=>?_)
 clear hK K hHeld
 have hHeld:=hHeld0
 clear hHeld0
 try simp only [Act.put,nrm]
 refine tk3 (i:=9) (v:=?_) rfl (Or.inl ⟨by kernel_rfl,?_⟩) hHeld ?_
 rotate_left
 ·(intro w hSw;(try dsimp only at hSw);go_simp;try with_reducible rfl)
 try simp only [Act.put,nrm]
 refine tk3 (i:=10) (v:=?_) rfl (Or.inl ⟨by kernel_rfl,?_⟩) hHeld ?_
 rotate_left
 ·(intro w hSw;(try dsimp only at hSw);go_simp;try with_reducible rfl)
 try simp only [Act.put,nrm]
 have hBo:=hBw.other (by omega:w.heap.size≠p) 1 (.slice x3 (rs.length+1) x4)
 refine wpAnyH_ready (rs:=[11]) (by kernel_rfl) (by simp) ?_
 refine AllReadyH.cons rfl (fun K hK=>?_) AllReadyH.nil
 go_simp
 refine hK.out _ _ ⟨hBo.cell 0 rfl,hBo.cell 1 rfl,hBo.cell 2 rfl,hBo.cell 3 rfl⟩ (fun hHeld0=>?_)
 clear hK K hHeld hHeld0
 refine wpAnyH_done (by kernel_rfl) ?_ _
 go_wp2_with fail
 go_end0
 exact ⟨rfl,HF.out⟩
structure S.Sto where
 dead:Bool
 wm:Int
 fl:Int
 newest:List (ByteArray × Int)
 pend:List (ByteArray × List Rec)
structure StoAt (w:World) (tg:Tags) (o s d:Nat) (X:S.Sto) (ids ps:List Nat):Prop where
 top:s<w.heap.size
 ts:tg s=(o,0)
 fr:∀ j,w.frozen? ⟨s,j,none⟩=false
 c0:w.cell? ⟨s,0,none⟩=some (.pointer (some ⟨d,0,none⟩))
 c1:w.cell? ⟨s,1,none⟩=some (.bool X.dead)
 c2:w.cell? ⟨s,2,none⟩=some (.int .i64 X.wm)
 c3:w.cell? ⟨s,3,none⟩=some (.int .i64 X.fl)
 nw:KMap w tg o s 4 1 3 (X.newest.map (·.1)) (intVals (X.newest.map (·.2)))
 pd:KMap w tg o s 6 3 105 (X.pend.map (·.1)) (ptrVals ps)
 nodup:ids.Nodup
 lenI:ids.length=X.pend.length
 inner:∀ (i p id:Nat) (kr:ByteArray × List Rec),ps[i]?=some p→ids[i]?=some id→X.pend[i]?=some kr→RMap w tg o p (6+3*id) kr.2∧tg p=(o,5+3*id)∧∀ j,w.frozen? ⟨p,j,none⟩=false
theorem StoAt.keep {w w':World} {tg tg':Tags} {o s d:Nat} {X:S.Sto} {ids ps:List Nat} (h:StoAt w tg o s d X ids ps) (hs:w.heap.size≤w'.heap.size) (ht:∀ k,k<w.heap.size→tg' k=tg k)
  (hb:∀ k,k<w.heap.size→(tg k).1=o→w'.heap[k]?=w.heap[k]?):StoAt w' tg' o s d X ids ps:=by
 have hd:w'.heap[s]?=w.heap[s]?:=hb s h.top (by rw [h.ts])
 have hc:∀ j,w'.cell? ⟨s,j,none⟩=w.cell? ⟨s,j,none⟩:=fun j=>World.cell?_of_block (a:=⟨s,j,none⟩) hd
 refine ⟨Nat.lt_of_lt_of_le h.top hs,(ht s h.top).trans h.ts,fun j=>(World.frozen?_of_block (a:=⟨s,j,none⟩) hd).trans (h.fr j),(hc 0).trans h.c0,(hc 1).trans h.c1,(hc 2).trans h.c2,(hc 3).trans h.c3,
  h.nw.keep hs (fun k hk _=>ht k hk) (hc 4) (hc 5) (fun k hk e=>hb k hk (by rcases e with e | e<;>rw [e])),
  h.pd.keep hs (fun k hk _=>ht k hk) (hc 6) (hc 7) (fun k hk e=>hb k hk (by rcases e with e | e<;>rw [e])),h.nodup,h.lenI,fun i p id kr h1 h2 h3=>?_⟩
 obtain ⟨g1,g2,g3⟩:=h.inner i p id kr h1 h2 h3
 have hp:w'.heap[p]?=w.heap[p]?:=hb p g1.top (by rw [g2])
 exact ⟨g1.keep hs (fun k hk _=>ht k hk) hp (fun k hk e=>hb k hk (by rcases e with e | e<;>rw [e])),(ht p g1.top).trans g2,fun j=>(World.frozen?_of_block (a:=⟨p,j,none⟩) hp).trans (g3 j)⟩
theorem StoAt.kept {w w':World} {tg:Tags} {o s d:Nat} {X:S.Sto} {ids ps:List Nat} (h:StoAt w tg o s d X ids ps) (q:Q w w'):StoAt w' tg o s d X ids ps:=
 h.keep q.below.size (fun _ _=>rfl) (fun k hk _=>q.below.block k hk)
theorem StoAt.cell_turn {w w':World} {tg:Tags} {o s d:Nat} {X Y:S.Sto} {ids ps:List Nat} (h:StoAt w tg o s d X ids ps) (hn:Y.newest=X.newest) (hp:Y.pend=X.pend) (hs:w.heap.size≤w'.heap.size)
  (hb:∀ k,k<w.heap.size→k≠s→w'.heap[k]?=w.heap[k]?) (hc:∀ j,4≤j→w'.cell? ⟨s,j,none⟩=w.cell? ⟨s,j,none⟩) (hf:∀ j,w'.frozen? ⟨s,j,none⟩=w.frozen? ⟨s,j,none⟩)
  (c0:w'.cell? ⟨s,0,none⟩=some (.pointer (some ⟨d,0,none⟩))) (c1:w'.cell? ⟨s,1,none⟩=some (.bool Y.dead)) (c2:w'.cell? ⟨s,2,none⟩=some (.int .i64 Y.wm)) (c3:w'.cell? ⟨s,3,none⟩=some (.int .i64 Y.fl)):StoAt w' tg o s d Y ids ps:=by
 have hne:∀ k u,tg k=(o,u+1)→k≠s:=fun k u e e2=>by rw [e2,h.ts] at e;simp at e
 refine ⟨Nat.lt_of_lt_of_le h.top hs,h.ts,fun j=>(hf j).trans (h.fr j),c0,c1,c2,c3,?_,?_,h.nodup,by rw [hp];exact h.lenI,?_⟩
 ·rw [hn]
  exact h.nw.keep hs (fun k _ _=>rfl) (hc 4 (by omega)) (hc 5 (by omega)) (fun k hk e=>hb k hk (by rcases e with e | e<;>exact hne k _ e))
 ·rw [hp]
  exact h.pd.keep hs (fun k _ _=>rfl) (hc 6 (by omega)) (hc 7 (by omega)) (fun k hk e=>hb k hk (by rcases e with e | e<;>exact hne k _ e))
 ·rw [hp]
  intro i p id kr h1 h2 h3
  obtain ⟨g1,g2,g3⟩:=h.inner i p id kr h1 h2 h3
  have e5:5+3*id=(4+3*id)+1:=by omega
  have e6:6+3*id=(5+3*id)+1:=by omega
  have hp':w'.heap[p]?=w.heap[p]?:=hb p g1.top (hne p _ (e5▸g2))
  exact ⟨g1.keep hs (fun k _ _=>rfl) hp' (fun k hk e=>hb k hk (by rcases e with e | e;exact hne k _ (e6▸e);exact hne k _ e)),g2,fun j=>(World.frozen?_of_block (a:=⟨p,j,none⟩) hp').trans (g3 j)⟩
theorem StoAt.set {w:World} {tg:Tags} {o s d:Nat} {X Y:S.Sto} {ids ps:List Nat} (h:StoAt w tg o s d X ids ps) (hn:Y.newest=X.newest) (hp:Y.pend=X.pend) (j:Nat) (v:Value) (hj:j<4)
  (c0:(w.setCell ⟨s,j,none⟩ v).cell? ⟨s,0,none⟩=some (.pointer (some ⟨d,0,none⟩))) (c1:(w.setCell ⟨s,j,none⟩ v).cell? ⟨s,1,none⟩=some (.bool Y.dead)) (c2:(w.setCell ⟨s,j,none⟩ v).cell? ⟨s,2,none⟩=some (.int .i64 Y.wm)) (c3:(w.setCell ⟨s,j,none⟩ v).cell? ⟨s,3,none⟩=some (.int .i64 Y.fl)):StoAt (w.setCell ⟨s,j,none⟩ v) tg o s d Y ids ps:=
 h.cell_turn hn hp (by simp) (fun k _ hne=>heap_setCell_other w ⟨s,j,none⟩ k v (fun e=>hne (by simpa using e)))
  (fun i hi=>World.cell?_setCell_other _ _ _ _ (by intro e;injection e with _ e2;omega)) (fun i=>World.frozen?_setCell _ _ _ _) c0 c1 c2 c3
end Go.Proofs.YtekdenkllipehabGreatDoor
namespace Go.Proofs.YtekdenkllipehabGreatDoor
open Go.RowKit
namespace S
def lookK {α:Type} (l:List (ByteArray × α)) (k:ByteArray):Option α:=(l.find? fun x=>decide (x.1=k)).map (·.2)
theorem lookK_none {α:Type} {l:List (ByteArray × α)} {k:ByteArray} (h:lookK l k=none):hasK (l.map (·.1)) k=false:=by
 cases hh:hasK (l.map (·.1)) k with
 | false=>rfl
 | true =>
  rw [hasK_iff,List.mem_map] at hh
  obtain ⟨x,hx,he⟩:=hh
  unfold lookK at h
  rw [Option.map_eq_none_iff,List.find?_eq_none] at h
  exact absurd he (by simpa using h x hx)
theorem lookK_some {α:Type} {l:List (ByteArray × α)} {k:ByteArray} {a:α} (hr:Rising (l.map (·.1))) (h:lookK l k=some a):hasK (l.map (·.1)) k=true∧l[lowK (l.map (·.1)) k]?=some (k,a):=by
 unfold lookK at h
 rw [Option.map_eq_some_iff] at h
 obtain ⟨x,hx,rfl⟩:=h
 have hm:=List.mem_of_find?_eq_some hx
 have he:=List.find?_some hx
 simp only [decide_eq_true_eq] at he
 obtain ⟨i,hi⟩:=List.mem_iff_getElem?.1 hm
 have hi2:(l.map (·.1))[i]?=some k:=by rw [List.getElem?_map,hi];simp [he]
 refine ⟨hasK_iff.2 (List.mem_of_getElem? hi2),?_⟩
 rw [lowK_mem hr hi2,hi,←he]
structure Sto.Ok (X:Sto):Prop where
 nwUp:Rising (X.newest.map (·.1))
 pdUp:Rising (X.pend.map (·.1))
 nwFew:X.newest.length≤1048000
 pdFew:X.pend.length≤1048000
 each:∀ kr∈X.pend,Up kr.2∧kr.2≠[]∧kr.2.length≤1048000
def Sto.pendAt (X:Sto) (k:ByteArray) (t:Int):Option Rec:=(lookK X.pend k).bind fun rs=>lastLe rs t
end S
theorem isKey_any (k:ByteArray) (w:World):Calls Tryz.prog 45 #[.string k] w fun e w'=>e=.returned (.bool (decide (1≤k.size∧k.size≤64)))∧Q w w':=by
 by_cases h1:1≤k.size
 ·by_cases h2:k.size≤64
  ·have g1:(1:Int)≤(k.size:Int):=by omega
   have g2:(k.size:Int)≤64:=by omega
   have hd:decide (1≤k.size∧k.size≤64)=true:=by simp [h1,h2]
   rw [hd]
   clear h1 h2 hd
   go_enter Tryz.func45,Tryz.ntmps45
   go_wp2_with fail
   go_ret
   exact ⟨rfl,Q.refl w⟩
  ·have g1:(1:Int)≤(k.size:Int):=by omega
   have g2:¬(k.size:Int)≤64:=by omega
   have hd:decide (1≤k.size∧k.size≤64)=false:=by simp [h1,h2]
   rw [hd]
   clear h1 h2 hd
   go_enter Tryz.func45,Tryz.ntmps45
   go_wp2_with fail
   go_ret
   exact ⟨rfl,Q.refl w⟩
 ·have g1:¬(1:Int)≤(k.size:Int):=by omega
  have hd:decide (1≤k.size∧k.size≤64)=false:=by simp [h1]
  rw [hd]
  clear h1 hd
  go_enter Tryz.func45,Tryz.ntmps45
  go_wp2_with fail
  go_ret
  exact ⟨rfl,Q.refl w⟩
theorem newestGet {w:World} {tg:Tags} {o s d:Nat} {X:S.Sto} {ids ps:List Nat} (h:StoAt w tg o s d X ids ps) (hX:X.Ok) (k:ByteArray) :
  Calls Tryz.prog 64 #[.pointer (some ⟨s,4,none⟩),.string k] w fun e w'=>e=.returned (.tuple #[.int .i64 ((S.lookK X.newest k).getD 0),.bool (S.lookK X.newest k).isSome])∧Q w w':=by
 refine (kGetI tg o s 4 1 (X.newest.map (·.1)) (intVals (X.newest.map (·.2))) hX.nwUp (by simp;have:=hX.nwFew;omega) k (fun i v hv=>?_) w h.nw).mono ?_
 ·simp only [intVals,List.getElem?_map,Option.map_eq_some_iff] at hv
  obtain ⟨n,_,rfl⟩:=hv
  exact ⟨n,rfl⟩
 ·rintro e w' ⟨rfl,q⟩
  refine ⟨?_,q⟩
  cases hl:S.lookK X.newest k with
  | none=>rw [S.lookK_none hl];simp
  | some n =>
   obtain ⟨h1,h2⟩:=S.lookK_some hX.nwUp hl
   rw [h1]
   simp [intVals,List.getElem?_map,h2]
def PdSaid (X:S.Sto) (ids ps:List Nat) (k:ByteArray) (e:Ending):Prop:=
 (S.lookK X.pend k=none∧e=.returned (.tuple #[.pointer none,.bool false]))
 ∨ ∃ (i p id:Nat) (rs:List Rec),ps[i]?=some p∧ids[i]?=some id∧X.pend[i]?=some (k,rs)∧S.lookK X.pend k=some rs∧e=.returned (.tuple #[.pointer (some ⟨p,0,none⟩),.bool true])
theorem pendGet {w:World} {tg:Tags} {o s d:Nat} {X:S.Sto} {ids ps:List Nat} (h:StoAt w tg o s d X ids ps) (hX:X.Ok) (k:ByteArray) :
  Calls Tryz.prog 52 #[.pointer (some ⟨s,6,none⟩),.string k] w fun e w'=>PdSaid X ids ps k e∧Q w w':=by
 refine (kGetM tg o s 6 3 (X.pend.map (·.1)) (ptrVals ps) hX.pdUp (by simp;have:=hX.pdFew;omega) k (fun i v hv=>?_) w h.pd).mono ?_
 ·simp only [ptrVals,List.getElem?_map,Option.map_eq_some_iff] at hv
  obtain ⟨n,_,rfl⟩:=hv
  exact ⟨_,rfl⟩
 ·rintro e w' ⟨rfl,q⟩
  refine ⟨?_,q⟩
  cases hl:S.lookK X.pend k with
  | none=>exact Or.inl ⟨hl,by rw [S.lookK_none hl];simp⟩
  | some rs =>
   obtain ⟨h1,h2⟩:=S.lookK_some hX.pdUp hl
   have hi:=(List.getElem?_eq_some_iff.1 h2).1
   have hlen:ps.length=X.pend.length:=by have:=h.pd.len;simpa [ptrVals] using this
   obtain ⟨p,hp⟩:∃ p,ps[S.lowK (X.pend.map (·.1)) k]?=some p:=⟨_,List.getElem?_eq_getElem (by rw [hlen];exact hi)⟩
   obtain ⟨id,hid⟩:∃ id,ids[S.lowK (X.pend.map (·.1)) k]?=some id:=⟨_,List.getElem?_eq_getElem (by rw [h.lenI];exact hi)⟩
   refine Or.inr ⟨_,p,id,rs,hp,hid,h2,hl,?_⟩
   rw [h1]
   simp [ptrVals,List.getElem?_map,hp]
theorem pendingAt_any {w:World} {tg:Tags} {o s d:Nat} {X:S.Sto} {ids ps:List Nat} (h:StoAt w tg o s d X ids ps) (hX:X.Ok) (k:ByteArray) (t:Int) :
  Calls Tryz.prog 74 #[.pointer (some ⟨s,0,none⟩),.string k,.int .i64 t] w fun e w'=>e=.returned (.tuple #[((X.pendAt k t).getD zeroRec).val,.bool (X.pendAt k t).isSome])∧Q w w':=by
 have HA:Hid (StoAt w tg o s d X ids ps):=h
 have PG:Hid _:=fun (W:World) (q:Q w W)=>pendGet (h.kept q) hX k
 clear h
 go_enter Tryz.func74,Tryz.ntmps74
 go_wp2_with fail
 refine (PG.out _ ((Q.refl w).alloc _ _)).mono ?_
 rintro e w1 ⟨hP,q1⟩
 have hV:=(varN_new w [.string ⟨#[]⟩,.int .i64 0,.int .i64 0,.string ⟨#[]⟩] 62).kept q1
 have q1':=((Q.refl w).alloc _ _).trans q1
 clear PG
 rcases hP with ⟨hn,rfl⟩|⟨i,p,id,rs,hp,hid,hkr,hl,rfl⟩
 ·have hpa:X.pendAt k t=none:=by simp [S.Sto.pendAt,hn]
  have HE:Hid (X.pendAt k t=none):=hpa
  have b0:=hV.cell 0 rfl
  have b1:=hV.cell 1 rfl
  have b2:=hV.cell 2 rfl
  have b3:=hV.cell 3 rfl
  have d0:=hV.free 0 rfl
  have d1:=hV.free 1 rfl
  have d2:=hV.free 2 rfl
  have d3:=hV.free 3 rfl
  have hset:=(((hV.set 0 (.string ⟨#[]⟩)).set 1 (.int .i64 0)).set 2 (.int .i64 0)).set 3 (.string ⟨#[]⟩)
  have m0:=hset.cell 0 rfl
  have m1:=hset.cell 1 rfl
  have m2:=hset.cell 2 rfl
  have m3:=hset.cell 3 rfl
  have hq:=(((q1'.setCell (p:=⟨w.heap.size,0,none⟩) (Nat.le_refl _) (.string ⟨#[]⟩)).setCell (p:=⟨w.heap.size,1,none⟩) (Nat.le_refl _) (.int .i64 0)).setCell (p:=⟨w.heap.size,2,none⟩) (Nat.le_refl _) (.int .i64 0)).setCell (p:=⟨w.heap.size,3,none⟩) (Nat.le_refl _) (.string ⟨#[]⟩)
  clear hset hV q1 q1' hpa hn
  go_wp2_with fail
  refine bodyPost_ret (v:=.tuple #[.agg #[.string ⟨#[]⟩,.int .i64 0,.int .i64 0,.string ⟨#[]⟩],.bool false]) (by simp [results,Tryz.results74,go_sem,m0,m1,m2,m3]) rfl ?_
  exact ⟨by rw [HE.out];rfl,hq⟩
 ·have hpa:X.pendAt k t=lastLe rs t:=by simp [S.Sto.pendAt,hl]
  obtain ⟨g1,g2,g3⟩:=(HA.out.kept q1').inner i p id _ hp hid hkr
  obtain ⟨k1,k2,k3⟩:=hX.each _ (List.mem_of_getElem? hkr)
  have RA:Hid _:=fun (_:Unit)=>rAtMost tg o p (6+3*id) rs k1 (by have:=k3;simp only at this;omega) t w1 g1
  rw [←hpa] at RA
  obtain ⟨ob,hob⟩:∃ ob,(X.pendAt k t).isSome=ob:=⟨_,rfl⟩
  obtain ⟨r,hr⟩:∃ r,(X.pendAt k t).getD zeroRec=r:=⟨_,rfl⟩
  have HE:Hid ((X.pendAt k t).isSome=ob∧(X.pendAt k t).getD zeroRec=r):=⟨hob,hr⟩
  rw [hob,hr] at RA
  unfold Rec.val at RA
  clear hob hpa hl hkr hp hid g1 g2 g3 k1 k2 k3 hX hr
  go_wp2_with fail
  refine (RA.out ()).mono ?_
  rintro e w2 ⟨rfl,q2⟩
  replace hV:=hV.kept q2
  replace q1':=q1'.trans q2
  have b0:=hV.cell 0 rfl
  have b1:=hV.cell 1 rfl
  have b2:=hV.cell 2 rfl
  have b3:=hV.cell 3 rfl
  have d0:=hV.free 0 rfl
  have d1:=hV.free 1 rfl
  have d2:=hV.free 2 rfl
  have d3:=hV.free 3 rfl
  have hset:=(((hV.set 0 (.string r.key)).set 1 (.int .i64 r.stamp)).set 2 (.int .i64 r.kind)).set 3 (.string r.body)
  have m0:=hset.cell 0 rfl
  have m1:=hset.cell 1 rfl
  have m2:=hset.cell 2 rfl
  have m3:=hset.cell 3 rfl
  have hq:=(((q1'.setCell (p:=⟨w.heap.size,0,none⟩) (Nat.le_refl _) (.string r.key)).setCell (p:=⟨w.heap.size,1,none⟩) (Nat.le_refl _) (.int .i64 r.stamp)).setCell (p:=⟨w.heap.size,2,none⟩) (Nat.le_refl _) (.int .i64 r.kind)).setCell (p:=⟨w.heap.size,3,none⟩) (Nat.le_refl _) (.string r.body)
  clear hset hV q1 q1' q2 RA
  go_wp2_with fail
  refine bodyPost_ret (v:=.tuple #[.agg #[.string r.key,.int .i64 r.stamp,.int .i64 r.kind,.string r.body],.bool ob]) (by simp [results,Tryz.results74,go_sem,m0,m1,m2,m3]) rfl ?_
  exact ⟨by rw [HE.out.1,HE.out.2];rfl,hq⟩
end Go.Proofs.YtekdenkllipehabGreatDoor
namespace Go.Proofs.YtekdenkllipehabGreatDoor
open Go.RowKit
namespace S
def Sto.latest (X:Sto) (k:ByteArray):Int:=
 let a:=match lookK X.newest k with | some n=>max X.wm n | none=>X.wm
 match X.pendAt k 1099511627776 with | some r=>max a r.stamp | none=>a
def Sto.isPending (X:Sto):Bool:=decide (X.pend≠[]∨X.wm≠X.fl)
end S
theorem latest_any {w:World} {tg:Tags} {o s d:Nat} {X:S.Sto} {ids ps:List Nat} (h:StoAt w tg o s d X ids ps) (hX:X.Ok) (k:ByteArray) :
  Calls Tryz.prog 77 #[.pointer (some ⟨s,0,none⟩),.string k] w fun e w'=>e=.returned (.int .i64 (X.latest k))∧Q w w':=by
 have NG:Hid _:=fun (W:World) (q:Q w W)=>newestGet (h.kept q) hX k
 have PA:Hid _:=fun (W:World) (q:Q w W)=>pendingAt_any (h.kept q) hX k 1099511627776
 have c2:=h.c2
 obtain ⟨L,hL⟩:∃ L,X.latest k=L:=⟨_,rfl⟩
 rw [hL]
 have HL2:Hid (X.latest k=L):=hL
 clear h hL
 cases hn:S.lookK X.newest k with
 | none =>
  cases hp:X.pendAt k 1099511627776 with
  | none =>
   rw [hn] at NG
   rw [hp] at PA
   obtain ⟨m,hm⟩:∃ m,X.wm=m:=⟨_,rfl⟩
   have HL3:Hid (m=L):=by have:=HL2.out;simp only [S.Sto.latest,hn,hp,hm] at this;exact this
   clear hn hp HL2
   simp only [Option.getD_none,Option.isSome_none,zeroRec,Rec.val] at NG PA
   generalize X.wm=wm at *
   subst hm
   go_enter Tryz.func77,Tryz.ntmps77
   go_wp2_with fail
   refine (NG.out _ (Q.refl w)).mono ?_
   rintro e w1 ⟨rfl,q1⟩
   go_wp2_with fail
   refine (PA.out _ q1).mono ?_
   rintro e w2 ⟨rfl,q2⟩
   have q12:=q1.trans q2
   have hmx:=HL3.out
   go_wp2_with fail
   go_ret
   first | exact ⟨rfl,q12.alloc _ _⟩ | exact ⟨by rw [HL3.out],q12.alloc _ _⟩
  | some r =>
   rw [hn] at NG
   rw [hp] at PA
   obtain ⟨m,hm⟩:∃ m,X.wm=m:=⟨_,rfl⟩
   have HL3:Hid (max m r.stamp=L):=by have:=HL2.out;simp only [S.Sto.latest,hn,hp,hm] at this;exact this
   clear hn hp HL2
   simp only [Option.getD_none,Option.isSome_none,Option.getD_some,Option.isSome_some,Rec.val] at NG PA
   generalize X.wm=wm at *
   subst hm
   go_enter Tryz.func77,Tryz.ntmps77
   go_wp2_with fail
   refine (NG.out _ (Q.refl w)).mono ?_
   rintro e w1 ⟨rfl,q1⟩
   go_wp2_with fail
   refine (PA.out _ q1).mono ?_
   rintro e w2 ⟨rfl,q2⟩
   have q12:=q1.trans q2
   have hmx:=HL3.out
   go_wp2_with fail
   go_ret
   first | exact ⟨rfl,q12.alloc _ _⟩ | exact ⟨by rw [HL3.out],q12.alloc _ _⟩
 | some n =>
  cases hp:X.pendAt k 1099511627776 with
  | none =>
   rw [hn] at NG
   rw [hp] at PA
   obtain ⟨m,hm⟩:∃ m,max X.wm n=m:=⟨_,rfl⟩
   have HL3:Hid (m=L):=by have:=HL2.out;simp only [S.Sto.latest,hn,hp,hm] at this;exact this
   clear hn hp HL2
   simp only [Option.getD_none,Option.isSome_none,Option.getD_some,Option.isSome_some,zeroRec,Rec.val] at NG PA
   generalize X.wm=wm at *
   have hm2:=hm
   go_enter Tryz.func77,Tryz.ntmps77
   go_wp2_with fail
   refine (NG.out _ (Q.refl w)).mono ?_
   rintro e w1 ⟨rfl,q1⟩
   go_wp2_with fail
   refine (PA.out _ q1).mono ?_
   rintro e w2 ⟨rfl,q2⟩
   have q12:=q1.trans q2
   have hmx:=HL3.out
   go_wp2_with fail
   go_ret
   first | exact ⟨rfl,q12.alloc _ _⟩ | exact ⟨by rw [HL3.out],q12.alloc _ _⟩
  | some r =>
   rw [hn] at NG
   rw [hp] at PA
   obtain ⟨m,hm⟩:∃ m,max X.wm n=m:=⟨_,rfl⟩
   have HL3:Hid (max m r.stamp=L):=by have:=HL2.out;simp only [S.Sto.latest,hn,hp,hm] at this;exact this
   clear hn hp HL2
   simp only [Option.getD_some,Option.isSome_some,Rec.val] at NG PA
   generalize X.wm=wm at *
   have hm2:=hm
   go_enter Tryz.func77,Tryz.ntmps77
   go_wp2_with fail
   refine (NG.out _ (Q.refl w)).mono ?_
   rintro e w1 ⟨rfl,q1⟩
   go_wp2_with fail
   refine (PA.out _ q1).mono ?_
   rintro e w2 ⟨rfl,q2⟩
   have q12:=q1.trans q2
   have hmx:=HL3.out
   go_wp2_with fail
   go_ret
   first | exact ⟨rfl,q12.alloc _ _⟩ | exact ⟨by rw [HL3.out],q12.alloc _ _⟩
theorem lenM {w:World} {tg:Tags} {o s d:Nat} {X:S.Sto} {ids ps:List Nat} (h:StoAt w tg o s d X ids ps) :
  Calls Tryz.prog 56 #[.pointer (some ⟨s,6,none⟩)] w fun e w'=>e=.returned (.int .i64 (X.pend.length:Int))∧Q w w':=by
 obtain ⟨ao,cap,h1,_⟩:=h.pd.keys
 rw [List.length_map] at h1
 clear h
 go_enter Tryz.func56,Tryz.ntmps56
 go_wp2_with fail
 go_ret
 exact ⟨rfl,Q.refl w⟩
theorem isPending_any {w:World} {tg:Tags} {o s d:Nat} {X:S.Sto} {ids ps:List Nat} (h:StoAt w tg o s d X ids ps) :
  Calls Tryz.prog 32 #[.pointer (some ⟨s,0,none⟩)] w fun e w'=>e=.returned (.bool X.isPending)∧Q w w':=by
 have LM:Hid _:=fun (W:World) (q:Q w W)=>lenM (h.kept q)
 have c2:=h.c2
 have c3:=h.c3
 clear h
 obtain ⟨n,hn⟩:∃ n,X.pend.length=n:=⟨_,rfl⟩
 have HR:Hid (X.isPending=decide (0<n∨X.wm≠X.fl)):=by
  refine decide_eq_decide.2 (or_congr ?_ Iff.rfl)
  rw [←hn,List.length_pos_iff]
 rw [hn] at LM
 obtain ⟨bb,hbb⟩:∃ bb,X.isPending=bb:=⟨_,rfl⟩
 rw [hbb]
 rw [hbb] at HR
 generalize X.wm=wm at *
 generalize X.fl=fl at *
 clear hn hbb
 by_cases h0:0<n
 ·have h0I:(0:Int)<(n:Int):=by omega
  go_enter Tryz.func32,Tryz.ntmps32
  go_upto_region 1 with fail
  refine wp_region_held_drew (S:=fun w'=>w'.cell? ⟨s,2,none⟩=some (.int .i64 wm)∧w'.cell? ⟨s,3,none⟩=some (.int .i64 fl)) (by kernel_rfl) ⟨kept_cell c2 (Q.refl w).drew,kept_cell c3 (Q.refl w).drew⟩ (fun hHeld=>?_)
  refine tk3 (i:=0) (v:=?_) rfl (Or.inl ⟨by kernel_rfl,?_⟩) hHeld ?_
  rotate_left
  ·(intro w hSw;(try dsimp only at hSw);go_simp;try with_reducible rfl)
  try simp only [Act.put,nrm]
  refine tk3 (i:=1) (v:=?_) rfl (Or.inl ⟨by kernel_rfl,?_⟩) hHeld ?_
  rotate_left
  ·(intro w hSw;(try dsimp only at hSw);go_simp;try with_reducible rfl)
  try simp only [Act.put,nrm]
  refine tk3 (i:=2) (v:=?_) rfl (Or.inl ⟨by kernel_rfl,?_⟩) hHeld ?_
  rotate_left
  ·(intro w hSw;(try dsimp only at hSw);go_simp;try with_reducible rfl)
  try simp only [Act.put,nrm]
  refine wpAnyH_ready (rs:=[3]) (by kernel_rfl) (by simp) ?_
  refine AllReadyH.cons rfl (fun K hK=>?_) AllReadyH.nil
  go_simp
  refine (LM.out _ (Q.refl w).drew).mono ?_
  rintro e v1 ⟨rfl,q1⟩
  try go_wp2_with fail
  refine hK.out _ _ ⟨kept_cell c2 ((Q.refl w).drew.trans q1),kept_cell c3 ((Q.refl w).drew.trans q1)⟩ (fun hHeld0=>?_)
  clear hK K hHeld
  have hHeld:=hHeld0
  clear hHeld0
  try simp only [Act.put,nrm]
  refine tk3 (i:=4) (v:=?_) rfl (Or.inl ⟨by kernel_rfl,?_⟩) hHeld ?_
  rotate_left
  ·(intro w hSw;(try dsimp only at hSw);go_simp;try with_reducible rfl)
  try simp only [Act.put,nrm]
  refine tk3 (i:=5) (v:=?_) rfl (Or.inl ⟨by kernel_rfl,?_⟩) hHeld ?_
  rotate_left
  ·(intro w hSw;(try dsimp only at hSw);go_simp;try with_reducible rfl)
  try simp only [Act.put,nrm]
  refine tk3 (i:=6) (v:=undef) rfl (Or.inr ⟨by kernel_rfl,rfl⟩) hHeld ?_
  try simp only [Act.put,nrm]
  refine tk3 (i:=7) (v:=undef) rfl (Or.inr ⟨by kernel_rfl,rfl⟩) hHeld ?_
  try simp only [Act.put,nrm]
  refine tk3 (i:=8) (v:=undef) rfl (Or.inr ⟨by kernel_rfl,rfl⟩) hHeld ?_
  try simp only [Act.put,nrm]
  refine tk3 (i:=9) (v:=undef) rfl (Or.inr ⟨by kernel_rfl,rfl⟩) hHeld ?_
  try simp only [Act.put,nrm]
  refine tk3 (i:=10) (v:=undef) rfl (Or.inr ⟨by kernel_rfl,rfl⟩) hHeld ?_
  try simp only [Act.put,nrm]
  refine tk3 (i:=11) (v:=undef) rfl (Or.inr ⟨by kernel_rfl,rfl⟩) hHeld ?_
  try simp only [Act.put,nrm]
  refine tk3 (i:=12) (v:=undef) rfl (Or.inr ⟨by kernel_rfl,rfl⟩) hHeld ?_
  try simp only [Act.put,nrm]
  refine tk3 (i:=13) (v:=undef) rfl (Or.inr ⟨by kernel_rfl,rfl⟩) hHeld ?_
  try simp only [Act.put,nrm]
  refine tk3 (i:=14) (v:=undef) rfl (Or.inr ⟨by kernel_rfl,rfl⟩) hHeld ?_
  try simp only [Act.put,nrm]
  refine tk3 (i:=15) (v:=?_) rfl (Or.inl ⟨by kernel_rfl,?_⟩) hHeld ?_
  rotate_left
  ·(intro w hSw;(try dsimp only at hSw);go_simp;try with_reducible rfl)
  try simp only [Act.put,nrm]
  refine tk3 (i:=16) (v:=?_) rfl (Or.inl ⟨by kernel_rfl,?_⟩) hHeld ?_
  rotate_left
  ·(intro w hSw;(try dsimp only at hSw);go_simp;try with_reducible rfl)
  try simp only [Act.put,nrm]
  refine wpAnyH_done (by kernel_rfl) ?_ _
  have HT:bb=true:=by rw [HR.out];simp [h0]
  subst HT
  go_wp2_with fail
  go_ret
  exact ⟨rfl,(Q.refl w).drew.trans q1⟩
 ·have h0I:¬(0:Int)<(n:Int):=by omega
  go_enter Tryz.func32,Tryz.ntmps32
  go_upto_region 1 with fail
  go_region_held3 (fun w'=>w'.cell? ⟨s,2,none⟩=some (.int .i64 wm)∧w'.cell? ⟨s,3,none⟩=some (.int .i64 fl))
   (first | exact ⟨c2,c3⟩ | exact hS5)
   (first | (go_at_call 56;refine (LM.out _ (Q.refl w).drew).mono ?_;rintro e v3 ⟨rfl,q3⟩;have q4:Q w v3:=(Q.refl w).drew.trans q3;have hS5:v3.cell? ⟨s,2,none⟩=some (.int .i64 wm)∧v3.cell? ⟨s,3,none⟩=some (.int .i64 fl):=⟨kept_cell c2 q4,kept_cell c3 q4⟩))
  have HT:bb=(wm != fl):=by
   rw [HR.out]
   cases hwf:(wm != fl) with
   | true=>simp at hwf;simp [hwf]
   | false=>simp at hwf;simp [hwf];omega
  clear HR
  subst HT
  go_wp2_with fail
  go_ret
  exact ⟨rfl,q4⟩
theorem meet_any {w:World} {tg:Tags} {o s d:Nat} {X:S.Sto} {ids ps:List Nat} (h:StoAt w tg o s d X ids ps) (e0:Int) :
  Calls Tryz.prog 36 #[.pointer (some ⟨s,0,none⟩),.int .i64 e0] w fun e w'=>e=.returned (.tuple #[])∧StoAt w' tg o s d (if e0=10 then { X with dead:=true } else X) ids ps∧Only o tg w w'∧w'.heap.size=w.heap.size:=by
 by_cases he:e0=10
 ·subst he
  rw [if_pos rfl]
  have c0:=h.c0
  have c1:=h.c1
  have c2:=h.c2
  have c3:=h.c3
  have f1:=h.fr 1
  have hne:∀ i j,i≠j→(⟨s,i,none⟩:Addr)≠⟨s,j,none⟩:=fun i j hij e=>by injection e with _ e2;exact hij e2
  have hS:StoAt (w.setCell ⟨s,1,none⟩ (.bool true)) tg o s d { X with dead:=true } ids ps:=
   h.set (Y:={ X with dead:=true }) rfl rfl 1 _ (by omega) ((World.cell?_setCell_other _ _ _ _ (hne _ _ (by omega))).trans c0) (World.cell?_setCell_same _ _ _ c1) ((World.cell?_setCell_other _ _ _ _ (hne _ _ (by omega))).trans c2) ((World.cell?_setCell_other _ _ _ _ (hne _ _ (by omega))).trans c3)
  have HO:Hid (Only o tg w (w.setCell ⟨s,1,none⟩ (.bool true))):=only_set (Only.refl o tg w) (fun k _ e=>by rw [e,h.ts]) 1 _
  have HS:Hid (StoAt (w.setCell ⟨s,1,none⟩ (.bool true)) tg o s d { X with dead:=true } ids ps):=hS
  clear h hS hne
  go_enter Tryz.func36,Tryz.ntmps36
  go_wp2_with fail
  go_end0
  exact ⟨rfl,HS.out,HO.out,by simp⟩
 ·rw [if_neg he]
  have HA:Hid (StoAt w tg o s d X ids ps):=h
  have heb:(e0 == 10)=false:=by rw [beq_eq_false_iff_ne];exact he
  clear h
  go_enter Tryz.func36,Tryz.ntmps36
  go_wp2_with fail
  go_end0
  exact ⟨rfl,HA.out,Only.refl o tg w,rfl⟩
def S.Sto.raising (X:S.Sto) (t:Int):Int:=if X.dead=true then 10 else if t<X.wm∨1099511627776<t then 12 else 0
theorem raise_any {w:World} {tg:Tags} {o s d:Nat} {X:S.Sto} {ids ps:List Nat} (h:StoAt w tg o s d X ids ps) (t:Int) :
  Calls Tryz.prog 14 #[.pointer (some ⟨s,0,none⟩),.int .i64 t] w fun e w'=>e=.returned (.int .i64 (X.raising t))∧StoAt w' tg o s d (if X.raising t=0 then { X with wm:=t } else X) ids ps∧Only o tg w w'∧w'.heap.size=w.heap.size:=by
 have HA:Hid (StoAt w tg o s d X ids ps):=h
 have c0:=h.c0
 have c1:=h.c1
 have c2:=h.c2
 have c3:=h.c3
 have f2:=h.fr 2
 have hts:=h.ts
 cases hd:X.dead with
 | true =>
  have hr:X.raising t=10:=by simp [S.Sto.raising,hd]
  rw [hr,if_neg (by omega)]
  rw [hd] at c1
  clear h hr hd c0 c2 c3 f2
  go_enter Tryz.func14,Tryz.ntmps14
  go_wp2_with fail
  go_ret
  exact ⟨rfl,HA.out,Only.refl o tg w,rfl⟩
 | false =>
  by_cases h1:t<X.wm
  ·have hr:X.raising t=12:=by simp [S.Sto.raising,hd,h1]
   rw [hr,if_neg (by omega)]
   rw [hd] at c1
   clear h hr hd c0 c3 f2
   go_enter Tryz.func14,Tryz.ntmps14
   go_wp2_with fail
   go_ret
   exact ⟨rfl,HA.out,Only.refl o tg w,rfl⟩
  ·by_cases h2:1099511627776<t
   ·have hr:X.raising t=12:=by simp [S.Sto.raising,hd,h2]
    rw [hr,if_neg (by omega)]
    rw [hd] at c1
    clear h hr hd c0 c3 f2
    go_enter Tryz.func14,Tryz.ntmps14
    go_wp2_with fail
    go_ret
    exact ⟨rfl,HA.out,Only.refl o tg w,rfl⟩
   ·have hr:X.raising t=0:=by simp [S.Sto.raising,hd,h1,h2]
    rw [hr,if_pos rfl]
    have hne:∀ i j,i≠j→(⟨s,i,none⟩:Addr)≠⟨s,j,none⟩:=fun i j hij e=>by injection e with _ e2;exact hij e2
    have HS:Hid (StoAt (w.setCell ⟨s,2,none⟩ (.int .i64 t)) tg o s d { X with wm:=t } ids ps):=
     h.set (Y:={ X with wm:=t }) rfl rfl 2 _ (by omega) ((World.cell?_setCell_other _ _ _ _ (hne _ _ (by omega))).trans c0) ((World.cell?_setCell_other _ _ _ _ (hne _ _ (by omega))).trans c1) (World.cell?_setCell_same _ _ _ c2) ((World.cell?_setCell_other _ _ _ _ (hne _ _ (by omega))).trans c3)
    have HO:Hid (Only o tg w (w.setCell ⟨s,2,none⟩ (.int .i64 t))):=only_set (Only.refl o tg w) (fun k _ e=>by rw [e,hts]) 2 _
    rw [hd] at c1 HS
    clear h hr hd c0 c3 hne
    go_enter Tryz.func14,Tryz.ntmps14
    go_wp2_with fail
    go_ret
    exact ⟨rfl,HS.out,HO.out,by simp⟩
end Go.Proofs.YtekdenkllipehabGreatDoor
namespace Go.Proofs.YtekdenkllipehabGreatDoor
open Go.RowKit
def S.Sto.adding (X:S.Sto) (r:Rec):Int:=
 if X.dead=true then 10 else if ¬(1≤r.key.size∧r.key.size≤64) then 11 else if 4096<r.body.size then 4 else if 1099511627776<r.stamp∨r.stamp≤X.latest r.key then 12 else 0
theorem adding_any {w:World} {tg:Tags} {o s d:Nat} {X:S.Sto} {ids ps:List Nat} (h:StoAt w tg o s d X ids ps) (hX:X.Ok) (r:Rec) :
  Calls Tryz.prog 51 #[.pointer (some ⟨s,0,none⟩),r.val] w fun e w'=>e=.returned (.int .i64 (X.adding r))∧Q w w':=by
 have c1:=h.c1
 have IK:Hid _:=fun (W:World)=>isKey_any r.key W
 have LA:Hid _:=fun (W:World) (q:Q w W)=>latest_any (h.kept q) hX r.key
 obtain ⟨L,hL⟩:∃ L,X.latest r.key=L:=⟨_,rfl⟩
 rw [hL] at LA
 have k1:=kept_cell c1 ((Q.refl w).alloc #[.string r.key,.int .i64 r.stamp,.int .i64 r.kind,.string r.body] 62)
 unfold Rec.val
 by_cases hd:X.dead=true
 ·have hr:X.adding r=10:=by simp [S.Sto.adding,hd]
  rw [hr]
  rw [hd] at k1
  clear h hr hd hX c1 LA IK hL
  go_enter Tryz.func51,Tryz.ntmps51
  go_wp2_with fail
  go_ret
  exact ⟨rfl,(Q.refl w).alloc _ _⟩
 ·have hd':X.dead=false:=by simpa using hd
  rw [hd'] at k1
  have E1:X.adding r=if ¬(1≤r.key.size∧r.key.size≤64) then 11 else if 4096<r.body.size then 4 else if 1099511627776<r.stamp∨r.stamp≤L then 12 else 0:=by simp [S.Sto.adding,hd',hL]
  clear h hX hd hd' hL c1
  by_cases hk:1≤r.key.size∧r.key.size≤64
  ·rw [if_neg (by simpa using hk)] at E1
   have hk2:decide (1≤r.key.size∧r.key.size≤64)=true:=by simpa using hk
   rw [hk2] at IK
   clear hk hk2
   by_cases hb:4096<r.body.size
   ·rw [if_pos hb] at E1
    rw [E1]
    have hbI:(4096:Int)<(r.body.size:Int):=by omega
    clear E1 LA hb
    go_enter Tryz.func51,Tryz.ntmps51
    go_wp2_with fail
    refine (IK.out _).mono ?_
    rintro e w2 ⟨rfl,q2⟩
    have hV:=(varN_new w [.string r.key,.int .i64 r.stamp,.int .i64 r.kind,.string r.body] 62).kept q2
    have q2':Q w w2:=((Q.refl w).alloc _ _).trans q2
    have b0:=hV.cell 0 rfl
    have b1:=hV.cell 1 rfl
    have b3:=hV.cell 3 rfl
    clear IK hV q2 k1
    go_wp2_with fail
    go_ret
    exact ⟨rfl,q2'⟩
   ·rw [if_neg hb] at E1
    have hbI:¬(4096:Int)<(r.body.size:Int):=by omega
    clear hb
    by_cases h1:1099511627776<r.stamp
    ·rw [if_pos (Or.inl h1)] at E1
     rw [E1]
     clear E1 LA
     go_enter Tryz.func51,Tryz.ntmps51
     go_wp2_with fail
     refine (IK.out _).mono ?_
     rintro e w2 ⟨rfl,q2⟩
     have hV:=(varN_new w [.string r.key,.int .i64 r.stamp,.int .i64 r.kind,.string r.body] 62).kept q2
     have q2':Q w w2:=((Q.refl w).alloc _ _).trans q2
     have b0:=hV.cell 0 rfl
     have b1:=hV.cell 1 rfl
     have b3:=hV.cell 3 rfl
     clear IK hV q2 k1
     go_upto_region 7 with fail
     refine wp_region_held_drew (S:=fun w'=>w'.cell? ⟨w.heap.size,0,none⟩=some (.string r.key)∧w'.cell? ⟨w.heap.size,1,none⟩=some (.int .i64 r.stamp)) (by kernel_rfl) ⟨kept_cell b0 (Q.refl w2).drew,kept_cell b1 (Q.refl w2).drew⟩ (fun hHeld=>?_)
     refine tk3 (i:=0) (v:=?_) rfl (Or.inl ⟨by kernel_rfl,?_⟩) hHeld ?_
     rotate_left
     ·(intro w hSw;(try dsimp only at hSw);go_simp;try with_reducible rfl)
     try simp only [Act.put,nrm]
     refine tk3 (i:=1) (v:=?_) rfl (Or.inl ⟨by kernel_rfl,?_⟩) hHeld ?_
     rotate_left
     ·(intro w hSw;(try dsimp only at hSw);go_simp;try with_reducible rfl)
     try simp only [Act.put,nrm]
     refine tk3 (i:=2) (v:=?_) rfl (Or.inl ⟨by kernel_rfl,?_⟩) hHeld ?_
     rotate_left
     ·(intro w hSw;(try dsimp only at hSw);go_simp;try with_reducible rfl)
     try simp only [Act.put,nrm]
     refine tk3 (i:=3) (v:=?_) rfl (Or.inl ⟨by kernel_rfl,?_⟩) hHeld ?_
     rotate_left
     ·(intro w hSw;(try dsimp only at hSw);go_simp;try with_reducible rfl)
     try simp only [Act.put,nrm]
     refine tk3 (i:=4) (v:=undef) rfl (Or.inr ⟨by kernel_rfl,rfl⟩) hHeld ?_
     try simp only [Act.put,nrm]
     refine tk3 (i:=5) (v:=undef) rfl (Or.inr ⟨by kernel_rfl,rfl⟩) hHeld ?_
     try simp only [Act.put,nrm]
     refine tk3 (i:=6) (v:=undef) rfl (Or.inr ⟨by kernel_rfl,rfl⟩) hHeld ?_
     try simp only [Act.put,nrm]
     refine tk3 (i:=7) (v:=undef) rfl (Or.inr ⟨by kernel_rfl,rfl⟩) hHeld ?_
     try simp only [Act.put,nrm]
     refine tk3 (i:=8) (v:=undef) rfl (Or.inr ⟨by kernel_rfl,rfl⟩) hHeld ?_
     try simp only [Act.put,nrm]
     refine tk3 (i:=9) (v:=undef) rfl (Or.inr ⟨by kernel_rfl,rfl⟩) hHeld ?_
     try simp only [Act.put,nrm]
     refine tk3 (i:=10) (v:=undef) rfl (Or.inr ⟨by kernel_rfl,rfl⟩) hHeld ?_
     try simp only [Act.put,nrm]
     refine tk3 (i:=11) (v:=?_) rfl (Or.inl ⟨by kernel_rfl,?_⟩) hHeld ?_
     rotate_left
     ·(intro w hSw;(try dsimp only at hSw);go_simp;try with_reducible rfl)
     try simp only [Act.put,nrm]
     refine tk3 (i:=12) (v:=?_) rfl (Or.inl ⟨by kernel_rfl,?_⟩) hHeld ?_
     rotate_left
     ·(intro w hSw;(try dsimp only at hSw);go_simp;try with_reducible rfl)
     try simp only [Act.put,nrm]
     refine wpAnyH_done (by kernel_rfl) ?_ _
     go_wp2_with fail
     go_ret
     exact ⟨rfl,q2'.drew⟩
    ·have e1:decide (1099511627776<r.stamp)=false:=by simpa using h1
     have h1':r.stamp≤1099511627776:=by omega
     by_cases h2:r.stamp≤L
     ·rw [if_pos (Or.inr h2)] at E1
      rw [E1]
      clear E1
      go_enter Tryz.func51,Tryz.ntmps51
      go_wp2_with fail
      refine (IK.out _).mono ?_
      rintro e w2 ⟨rfl,q2⟩
      have hV:=(varN_new w [.string r.key,.int .i64 r.stamp,.int .i64 r.kind,.string r.body] 62).kept q2
      have q2':Q w w2:=((Q.refl w).alloc _ _).trans q2
      have b0:=hV.cell 0 rfl
      have b1:=hV.cell 1 rfl
      have b3:=hV.cell 3 rfl
      clear IK hV q2 k1
      go_upto_region 7 with fail
      go_region_held3 (fun w'=>w'.cell? ⟨w.heap.size,0,none⟩=some (.string r.key)∧w'.cell? ⟨w.heap.size,1,none⟩=some (.int .i64 r.stamp))
       (first | exact ⟨b0,b1⟩ | exact hS5)
       (first | (go_at_call 77;refine (LA.out _ q2'.drew).mono ?_;rintro e v3 ⟨rfl,q3⟩;have q4:Q w2 v3:=(Q.refl w2).drew.trans q3;have hS5:v3.cell? ⟨w.heap.size,0,none⟩=some (.string r.key)∧v3.cell? ⟨w.heap.size,1,none⟩=some (.int .i64 r.stamp):=⟨kept_cell b0 q4,kept_cell b1 q4⟩))
      have q5:=q2'.trans q4
      clear hS5 q3 q4 b0 b1 b3 LA
      go_wp2_with fail
      go_ret
      exact ⟨rfl,q5⟩
     ·rw [if_neg (by simp [h1,h2])] at E1
      rw [E1]
      clear E1
      go_enter Tryz.func51,Tryz.ntmps51
      go_wp2_with fail
      refine (IK.out _).mono ?_
      rintro e w2 ⟨rfl,q2⟩
      have hV:=(varN_new w [.string r.key,.int .i64 r.stamp,.int .i64 r.kind,.string r.body] 62).kept q2
      have q2':Q w w2:=((Q.refl w).alloc _ _).trans q2
      have b0:=hV.cell 0 rfl
      have b1:=hV.cell 1 rfl
      have b3:=hV.cell 3 rfl
      clear IK hV q2 k1
      go_upto_region 7 with fail
      go_region_held3 (fun w'=>w'.cell? ⟨w.heap.size,0,none⟩=some (.string r.key)∧w'.cell? ⟨w.heap.size,1,none⟩=some (.int .i64 r.stamp))
       (first | exact ⟨b0,b1⟩ | exact hS5)
       (first | (go_at_call 77;refine (LA.out _ q2'.drew).mono ?_;rintro e v3 ⟨rfl,q3⟩;have q4:Q w2 v3:=(Q.refl w2).drew.trans q3;have hS5:v3.cell? ⟨w.heap.size,0,none⟩=some (.string r.key)∧v3.cell? ⟨w.heap.size,1,none⟩=some (.int .i64 r.stamp):=⟨kept_cell b0 q4,kept_cell b1 q4⟩))
      have q5:=q2'.trans q4
      clear hS5 q3 q4 b0 b1 b3 LA
      go_wp2_with fail
      go_ret
      exact ⟨rfl,q5⟩
  ·rw [if_pos hk] at E1
   have hk2:decide (1≤r.key.size∧r.key.size≤64)=false:=by simpa using hk
   rw [hk2] at IK
   rw [E1]
   clear hk hk2 E1 LA
   go_enter Tryz.func51,Tryz.ntmps51
   go_wp2_with fail
   refine (IK.out _).mono ?_
   rintro e w2 ⟨rfl,q2⟩
   have hV:=(varN_new w [.string r.key,.int .i64 r.stamp,.int .i64 r.kind,.string r.body] 62).kept q2
   have q2':Q w w2:=((Q.refl w).alloc _ _).trans q2
   have b0:=hV.cell 0 rfl
   have b1:=hV.cell 1 rfl
   have b3:=hV.cell 3 rfl
   clear IK hV q2 k1
   go_wp2_with fail
   go_ret
   exact ⟨rfl,q2'⟩
theorem StoAt.turnInner {w w':World} {tg:Tags} {o s d:Nat} {X:S.Sto} {ids ps:List Nat} (h:StoAt w tg o s d X ids ps) {i p id:Nat} {k:ByteArray} {rs rs':List Rec} (hp:ps[i]?=some p) (hid:ids[i]?=some id) (hk:X.pend[i]?=some (k,rs))
  (hN:RMapNew tg o p (6+3*id) rs' w w'):∃ tg':Tags,(∀ j,j<w.heap.size→tg' j=tg j)∧StoAt w' tg' o s d { X with pend:=X.pend.set i (k,rs')} ids ps∧Only o tg w w':=by
 obtain ⟨tg',ht,hM,hO⟩:=hN
 obtain ⟨g1,g2,g3⟩:=h.inner i p id _ hp hid hk
 have hpt:∀ b u,tg b=(o,u)→u<5→b<w.heap.size→w'.heap[b]?=w.heap[b]?:=fun b u hb hu hl =>
  hO.block b hl (fun e=>by rw [e,g2] at hb;injection hb with _ hb;omega) (fun e=>by rw [hb] at e;injection e with _ e;omega) (fun e=>by rw [hb] at e;injection e with _ e;omega)
 have hsb:=hpt s 0 h.ts (by omega) h.top
 have hc:∀ j,w'.cell? ⟨s,j,none⟩=w.cell? ⟨s,j,none⟩:=fun j=>World.cell?_of_block (a:=⟨s,j,none⟩) hsb
 have hkeys:(X.pend.set i (k,rs')).map (·.1)=X.pend.map (·.1):=by
  rw [List.map_set]
  refine List.ext_getElem? fun j=>?_
  rw [List.getElem?_set]
  by_cases hij:i=j
  ·subst hij
   have hl:=(List.getElem?_eq_some_iff.1 hk).1
   rw [List.getElem?_map,hk]
   simp [hl]
  ·simp [hij]
 refine ⟨tg',ht,⟨Nat.lt_of_lt_of_le h.top hO.size,(ht s h.top).trans h.ts,fun j=>(World.frozen?_of_block (a:=⟨s,j,none⟩) hsb).trans (h.fr j),(hc 0).trans h.c0,(hc 1).trans h.c1,(hc 2).trans h.c2,(hc 3).trans h.c3,?_,?_,h.nodup,?_,?_⟩,?_⟩
 ·exact h.nw.keep hO.size (fun b hb _=>ht b hb) (hc 4) (hc 5) (fun b hb e=>by rcases e with e | e;exact hpt b _ e (by omega) hb;exact hpt b _ e (by omega) hb)
 ·show KMap w' tg' o s 6 3 _ ((X.pend.set i (k,rs')).map (·.1)) _
  rw [hkeys]
  exact h.pd.keep hO.size (fun b hb _=>ht b hb) (hc 6) (hc 7) (fun b hb e=>by rcases e with e | e;exact hpt b _ e (by omega) hb;exact hpt b _ e (by omega) hb)
 ·show ids.length=(X.pend.set i (k,rs')).length
  rw [List.length_set]
  exact h.lenI
 ·intro j p2 id2 kr h1 h2 h3
  by_cases hij:i=j
  ·subst hij
   rw [hp] at h1
   rw [hid] at h2
   injection h1 with h1
   injection h2 with h2
   subst h1 h2
   have h3':(X.pend.set i (k,rs'))[i]?=some kr:=h3
   rw [List.getElem?_set_self (List.getElem?_eq_some_iff.1 hk).1] at h3'
   injection h3' with h3'
   subst h3'
   exact ⟨hM,(ht p g1.top).trans g2,fun b=>(hO.fr b).trans (g3 b)⟩
  ·have h3':(X.pend.set i (k,rs'))[j]?=some kr:=h3
   rw [List.getElem?_set_ne hij] at h3'
   obtain ⟨f1,f2,f3⟩:=h.inner j p2 id2 kr h1 h2 h3'
   have hne:id2≠id:=fun e=>by
    subst e
    have hi:=(List.getElem?_eq_some_iff.1 hid)
    have hj:=(List.getElem?_eq_some_iff.1 h2)
    exact hij ((List.getElem_inj h.nodup).1 (hi.2.trans hj.2.symm))
   have hoth:∀ b u,tg b=(o,u)→(u=5+3*id2∨u=6+3*id2∨u=7+3*id2)→b<w.heap.size→w'.heap[b]?=w.heap[b]?:=fun b u hb hu hl =>
    hO.block b hl (fun e=>by rw [e,g2] at hb;injection hb with _ hb;omega) (fun e=>by rw [hb] at e;injection e with _ e;omega) (fun e=>by rw [hb] at e;injection e with _ e;omega)
   have hp2:=hoth p2 _ f2 (by omega) f1.top
   exact ⟨f1.keep hO.size (fun b hb _=>ht b hb) hp2 (fun b hb e=>by rcases e with e | e;exact hoth b _ e (by omega) hb;exact hoth b _ e (by omega) hb),(ht p2 f1.top).trans f2,fun b=>(World.frozen?_of_block (a:=⟨p2,b,none⟩) hp2).trans (f3 b)⟩
 ·exact ⟨hO.os,hO.tape,hO.output,hO.size,fun b hb hn=>hO.block b hb (fun e=>by rw [e,g2] at hn;exact hn rfl) (fun e=>by rw [e] at hn;exact hn rfl) (fun e=>by rw [e] at hn;exact hn rfl)⟩
theorem map_insAt {α β:Type} (f:α→β) (l:List α) (j:Nat) (x:α):(insAt l j x).map f=insAt (l.map f) j (f x):=by
 simp [insAt,List.map_take,List.map_drop]
def freshId (ids:List Nat):Nat:=ids.foldr (fun a b=>max (a+1) b) 0
theorem freshId_lt:∀ {ids:List Nat} {a:Nat},a∈ids→a<freshId ids
 | b::l,a,h=>by
  have ih:=@freshId_lt l a
  simp only [freshId,List.foldr_cons] at *
  rcases List.mem_cons.1 h with e|e
  ·omega
  ·have:=ih e;omega
theorem StoAt.newInner {w w':World} {tg:Tags} {o s d:Nat} {X:S.Sto} {ids ps:List Nat} (h:StoAt w tg o s d X ids ps) {t:TypeId} {k:ByteArray} (j:Nat) (hj:j≤X.pend.length)
  (hN:KMapNew (tg.more w.heap.size o (5+3*freshId ids)) o s 6 3 105 (insAt (X.pend.map (·.1)) j k) (insAt (ptrVals ps) j (.pointer (some ⟨w.heap.size,0,none⟩))) (w.alloc (.cells #[.slice none 0 0,.slice none 0 0] t)) w') :
  ∃ tg':Tags,(∀ b,b<w.heap.size→tg' b=tg b)∧StoAt w' tg' o s d { X with pend:=insAt X.pend j (k,[])} (insAt ids j (freshId ids)) (insAt ps j w.heap.size)∧Only o tg w w':=by
 obtain ⟨tg',ht,hM,hO⟩:=hN
 have hsz:(w.alloc (.cells #[.slice none 0 0,.slice none 0 0] t)).heap.size=w.heap.size+1:=by simp
 have q0:Q w (w.alloc (.cells #[.slice none 0 0,.slice none 0 0] t)):=(Q.refl w).alloc _ _
 have h':=h.kept q0
 have ht0:∀ b,b<w.heap.size→tg' b=tg b:=fun b hb=>(ht b (by omega)).trans (Tags.more_old hb)
 have htn:tg' w.heap.size=(o,5+3*freshId ids):=(ht w.heap.size (by omega)).trans (Tags.more_new (Nat.le_refl _))
 have hsn:s≠w.heap.size:=Nat.ne_of_lt h.top
 have hblk:∀ b u,b<w.heap.size→tg b=(o,u)→b≠s→u≠3→u≠4→w'.heap[b]?=w.heap[b]?:=fun b u hb e hbs h3 h4 =>
  (hO.block b (by omega) hbs (fun e2=>by rw [Tags.more_old hb,e] at e2;injection e2 with _ e2;exact h3 e2) (fun e2=>by rw [Tags.more_old hb,e] at e2;injection e2 with _ e2;exact h4 e2)).trans (q0.below.block b hb)
 have hsu:∀ b u,tg b=(o,u+1)→b≠s:=fun b u e e2=>by rw [e2,h.ts] at e;simp at e
 have hc:∀ i,i≠6→i≠7→w'.cell? ⟨s,i,none⟩=w.cell? ⟨s,i,none⟩:=fun i h6 h7=>(hO.cell i h6 h7).trans (q0.below.cell (p:=⟨s,i,none⟩) h.top)
 have hle:w.heap.size≤w'.heap.size:=by have:=hO.size;omega
 have hlp:ps.length=X.pend.length:=by have:=h.pd.len;simpa [ptrVals] using this
 have hnew:w'.heap[w.heap.size]?=(w.alloc (.cells #[.slice none 0 0,.slice none 0 0] t)).heap[w.heap.size]?:=
  hO.block w.heap.size (by omega) (fun e=>hsn e.symm) (fun e=>by rw [Tags.more_new (Nat.le_refl _)] at e;injection e with _ e;omega) (fun e=>by rw [Tags.more_new (Nat.le_refl _)] at e;injection e with _ e;omega)
 have hV0:=varN_new w [.slice none 0 0,.slice none 0 0] t
 refine ⟨tg',ht0,⟨by have:=h.top;omega,(ht0 s h.top).trans h.ts,fun i=>(hO.fr i).trans (h'.fr i),(hc 0 (by omega) (by omega)).trans h.c0,(hc 1 (by omega) (by omega)).trans h.c1,(hc 2 (by omega) (by omega)).trans h.c2,(hc 3 (by omega) (by omega)).trans h.c3,?_,?_,?_,?_,?_⟩,?_⟩
 ·exact h.nw.keep hle (fun b hb _=>ht0 b hb) (hc 4 (by omega) (by omega)) (hc 5 (by omega) (by omega)) (fun b hb e=>by
   rcases e with e|e
   ·exact hblk b _ hb e (hsu b _ e) (by omega) (by omega)
   ·exact hblk b _ hb e (hsu b _ e) (by omega) (by omega))
 ·show KMap w' tg' o s 6 3 _ ((insAt X.pend j (k,[])).map (·.1)) (ptrVals (insAt ps j w.heap.size))
  have e1:(insAt X.pend j (k,([]:List Rec))).map (·.1)=insAt (X.pend.map (·.1)) j k:=map_insAt (fun x:ByteArray × List Rec=>x.1) _ _ _
  have e2:ptrVals (insAt ps j w.heap.size)=insAt (ptrVals ps) j (.pointer (some ⟨w.heap.size,0,none⟩)):=map_insAt _ _ _ _
  rw [e1,e2]
  exact hM
 ·exact insAt_nodup h.nodup (fun hm=>absurd (freshId_lt hm) (Nat.lt_irrefl _))
 ·show (insAt ids j (freshId ids)).length=(insAt X.pend j (k,[])).length
  rw [insAt_length (by rw [h.lenI];exact hj),insAt_length hj,h.lenI]
 ·intro i p id kr h1 h2 h3
  have h3':(insAt X.pend j (k,([]:List Rec)))[i]?=some kr:=h3
  rcases insAt_get (by rw [hlp];exact hj) h1 with ⟨e,rfl⟩|⟨hne,h1⟩
  ·subst e
   rw [insAt_self (by rw [h.lenI];exact hj)] at h2
   rw [insAt_self hj] at h3'
   injection h2 with h2
   injection h3' with h3'
   subst h2 h3'
   refine ⟨RMap.empty (by have:=hO.size;omega) ?_ ?_,htn,fun i=>?_⟩
   ·exact (World.cell?_of_block (a:=⟨w.heap.size,0,none⟩) hnew).trans (hV0.cell 0 rfl)
   ·exact (World.cell?_of_block (a:=⟨w.heap.size,1,none⟩) hnew).trans (hV0.cell 1 rfl)
   ·refine (World.frozen?_of_block (a:=⟨w.heap.size,i,none⟩) hnew).trans ?_
    exact World.frozen?_alloc_new w _ _ i
  ·rcases insAt_get (by rw [h.lenI];exact hj) h2 with ⟨e,_⟩|⟨_,h2⟩
   ·exact absurd e hne
   rcases insAt_get hj h3' with ⟨e,_⟩|⟨_,h3'⟩
   ·exact absurd e hne
   obtain ⟨f1,f2,f3⟩:=h.inner _ p id kr h1 h2 h3'
   have hb:∀ b u,b<w.heap.size→tg b=(o,u)→5≤u→w'.heap[b]?=w.heap[b]?:=fun b u hl e hu=>hblk b u hl e (fun e2=>by rw [e2,h.ts] at e;injection e with _ e;omega) (by omega) (by omega)
   have hp2:=hb p _ f1.top f2 (by omega)
   exact ⟨f1.keep hle (fun b hb' _=>ht0 b hb') hp2 (fun b hb' e=>by rcases e with e | e;exact hb b _ hb' e (by omega);exact hb b _ hb' e (by omega)),(ht0 p f1.top).trans f2,fun b=>(World.frozen?_of_block (a:=⟨p,b,none⟩) hp2).trans (f3 b)⟩
 ·exact ⟨hO.os.trans q0.below.os,hO.tape.trans q0.below.tape,hO.output.trans q0.below.output,hle,fun b hb hn=>(hO.block b (by omega) (fun e=>by rw [e,h.ts] at hn;exact hn rfl) (fun e=>by rw [Tags.more_old hb] at e;rw [e] at hn;exact hn rfl) (fun e=>by rw [Tags.more_old hb] at e;rw [e] at hn;exact hn rfl)).trans (q0.below.block b hb)⟩
def S.Sto.put (X:S.Sto) (r:Rec):S.Sto:=
 { X with pend:=match S.lookK X.pend r.key with
  | some rs=>X.pend.set (S.lowK (X.pend.map (·.1)) r.key) (r.key,rs++[r])
  | none=>insAt X.pend (S.lowK (X.pend.map (·.1)) r.key) (r.key,[r])}
theorem Only.join {o:Nat} {tg tg':Tags} {a b c:World} (h:Only o tg a b) (k:Only o tg' b c) (ht:∀ i,i<a.heap.size→tg' i=tg i):Only o tg a c:=
 ⟨k.os.trans h.os,k.tape.trans h.tape,k.output.trans h.output,Nat.le_trans h.size k.size,fun i hi hn=>(k.block i (Nat.lt_of_lt_of_le hi h.size) (by rw [ht i hi];exact hn)).trans (h.block i hi hn)⟩
theorem VarN.of_block {w w':World} {b:Nat} {l:List Value} (h:VarN w b l) (hb:w'.heap[b]?=w.heap[b]?) (hs:w.heap.size≤w'.heap.size):VarN w' b l:=
 ⟨Nat.lt_of_lt_of_le h.1 hs,fun i v hv=>⟨(World.cell?_of_block (a:=⟨b,i,none⟩) hb).trans (h.2 i v hv).1,(World.frozen?_of_block (a:=⟨b,i,none⟩) hb).trans (h.2 i v hv).2⟩⟩
theorem putNew {w:World} {tg:Tags} {o s d:Nat} {X:S.Sto} {ids ps:List Nat} (h:StoAt w tg o s d X ids ps) (hX:X.Ok) (k:ByteArray) (hk:S.lookK X.pend k=none) (t:TypeId) :
  Calls Tryz.prog 53 #[.pointer (some ⟨s,6,none⟩),.string k,.pointer (some ⟨w.heap.size,0,none⟩)] (w.alloc (.cells #[.slice none 0 0,.slice none 0 0] t)) fun e w'=>e=.returned (.tuple #[]) ∧
   ∃ tg':Tags,(∀ b,b<w.heap.size→tg' b=tg b)∧StoAt w' tg' o s d { X with pend:=insAt X.pend (S.lowK (X.pend.map (·.1)) k) (k,[])} (insAt ids (S.lowK (X.pend.map (·.1)) k) (freshId ids)) (insAt ps (S.lowK (X.pend.map (·.1)) k) w.heap.size)∧Only o tg w w':=by
 have h':=h.kept ((Q.refl w).alloc #[.slice none 0 0,.slice none 0 0] t)
 have hlow:=S.lowK_le (X.pend.map (·.1)) k
 rw [List.length_map] at hlow
 refine (kPutM (tg.more w.heap.size o (5+3*freshId ids)) o s 6 3 (X.pend.map (·.1)) (ptrVals ps) hX.pdUp (by simp;have:=hX.pdFew;omega) k w.heap.size (S.lookK_none hk) (ptrVals_one ps) _ ?_ ?_ ⟨h'.fr 6,h'.fr 7⟩).mono ?_
 ·have q0:Q w (w.alloc (.cells #[.slice none 0 0,.slice none 0 0] t)):=(Q.refl w).alloc _ _
  exact h.pd.keep q0.below.size (fun b hb _=>Tags.more_old hb) (q0.below.cell (p:=⟨s,6,none⟩) h.top) (q0.below.cell (p:=⟨s,7,none⟩) h.top) (fun b hb _=>q0.below.block b hb)
 ·rw [Tags.more_old h.top,h.ts]
  simp
 ·rintro e w' ⟨rfl,hN⟩
  exact ⟨rfl,h.newInner _ hlow hN⟩
theorem pendGet_none {w:World} {tg:Tags} {o s d:Nat} {X:S.Sto} {ids ps:List Nat} (h:StoAt w tg o s d X ids ps) (hX:X.Ok) (k:ByteArray) (hn:S.lookK X.pend k=none) :
  Calls Tryz.prog 52 #[.pointer (some ⟨s,6,none⟩),.string k] w fun e w'=>e=.returned (.tuple #[.pointer none,.bool false])∧Q w w':=by
 refine (pendGet h hX k).mono ?_
 rintro e w' ⟨hP,q⟩
 rcases hP with ⟨_,e1⟩|⟨i,p,id,rs,_,_,_,hl,_⟩
 ·exact ⟨e1,q⟩
 ·rw [hn] at hl;cases hl
theorem pendGet_some {w:World} {tg:Tags} {o s d:Nat} {X:S.Sto} {ids ps:List Nat} (h:StoAt w tg o s d X ids ps) (hX:X.Ok) (k:ByteArray) {i p:Nat} {rs:List Rec} (hp:ps[i]?=some p) (hkr:X.pend[i]?=some (k,rs)) :
  Calls Tryz.prog 52 #[.pointer (some ⟨s,6,none⟩),.string k] w fun e w'=>e=.returned (.tuple #[.pointer (some ⟨p,0,none⟩),.bool true])∧Q w w':=by
 refine (pendGet h hX k).mono ?_
 rintro e w' ⟨hP,q⟩
 have hi:S.lowK (X.pend.map (·.1)) k=i:=S.lowK_mem hX.pdUp (by rw [List.getElem?_map,hkr];rfl)
 rcases hP with ⟨hn,_⟩|⟨i',p',id,rs',hp',_,hkr',_,e1⟩
 ·have h1:=S.lookK_none hn
  have h2:S.hasK (X.pend.map (·.1)) k=true:=S.hasK_iff.2 (List.mem_map.2 ⟨_,List.mem_of_getElem? hkr,rfl⟩)
  rw [h1] at h2
  cases h2
 ·have hi':S.lowK (X.pend.map (·.1)) k=i':=S.lowK_mem hX.pdUp (by rw [List.getElem?_map,hkr'];rfl)
  have:i'=i:=hi'.symm.trans hi
  subst this
  rw [hp] at hp'
  injection hp' with hp'
  subst hp'
  exact ⟨e1,q⟩
theorem add_any {w:World} {tg:Tags} {o s d:Nat} {X:S.Sto} {ids ps:List Nat} (h:StoAt w tg o s d X ids ps) (hX:X.Ok) (r:Rec) (hf:X.pend.length<1048000∧∀ kr∈X.pend,kr.2.length<1048000)
  (hr:X.adding r=0→∀ kr∈X.pend,kr.1=r.key→∀ x∈kr.2,x.stamp<r.stamp) :
  Calls Tryz.prog 30 #[.pointer (some ⟨s,0,none⟩),r.val] w fun e w'=>e=.returned (.int .i64 (X.adding r))∧∃ tg' ids' ps',(∀ b,b<w.heap.size→tg' b=tg b)∧StoAt w' tg' o s d (if X.adding r=0 then X.put r else X) ids' ps'∧Only o tg w w':=by
 have AD:Hid _:=fun (W:World) (q:Q w W)=>adding_any (h.kept q) hX r
 unfold Rec.val at AD ⊢
 by_cases ha:X.adding r=0
 ·rw [ha] at AD ⊢
  rw [if_pos rfl]
  have HA:Hid (StoAt w tg o s d X ids ps):=h
  have hsz:r.key.size≤64∧r.body.size≤4096:=by
   unfold S.Sto.adding at ha
   split at ha
   ·omega
   split at ha
   ·omega
   split at ha
   ·omega
   rename_i _ h1 h2
   exact ⟨by omega,by omega⟩
  have HX:Hid X.Ok:=hX
  have HF:Hid (X.pend.length<1048000∧∀ kr∈X.pend,kr.2.length<1048000):=hf
  have HRr:Hid (∀ kr∈X.pend,kr.1=r.key→∀ x∈kr.2,x.stamp<r.stamp):=hr ha
  have CK:Hid _:=fun (W:World)=>clone_any r.key W (by omega)
  have CB:Hid _:=fun (W:World)=>clone_any r.body W (by omega)
  clear h hsz
  go_enter Tryz.func30,Tryz.ntmps30
  go_wp2_with fail
  refine (AD.out _ ((Q.refl w).alloc _ _)).mono ?_
  rintro e w2 ⟨rfl,q2⟩
  have hV:=(varN_new w [.string r.key,.int .i64 r.stamp,.int .i64 r.kind,.string r.body] 62).kept q2
  have q2':Q w w2:=((Q.refl w).alloc _ _).trans q2
  have b0:=hV.cell 0 rfl
  have b1:=hV.cell 1 rfl
  have b2:=hV.cell 2 rfl
  have b3:=hV.cell 3 rfl
  have d0:=hV.free 0 rfl
  have d3:=hV.free 3 rfl
  have HV:Hid (VarN w2 w.heap.size [.string r.key,.int .i64 r.stamp,.int .i64 r.kind,.string r.body]):=hV
  clear hV q2 AD
  clear hr hf hX ha
  go_upto_region 4 with fail
  go_region_held3 (fun w'=>w'.cell? ⟨w.heap.size,0,none⟩=some (.string r.key)∧w'.cell? ⟨w.heap.size,3,none⟩=some (.string r.body)∧w'.frozen? ⟨w.heap.size,0,none⟩=false∧w'.frozen? ⟨w.heap.size,3,none⟩=false)
   (first | exact ⟨b0,b3,d0,d3⟩ | exact hS5 | exact hS6 | exact hS7 | exact hS8)
   (first | (go_at_call 47;refine (CK.out _).mono ?_;rintro e v3 ⟨rfl,q3⟩;have q4:Q w2 v3:=(Q.refl w2).drew.trans ⟨q3⟩;have hS5:v3.cell? ⟨w.heap.size,0,none⟩=some (.string r.key)∧v3.cell? ⟨w.heap.size,3,none⟩=some (.string r.body)∧v3.frozen? ⟨w.heap.size,0,none⟩=false∧v3.frozen? ⟨w.heap.size,3,none⟩=false:=⟨kept_cell b0 q4,kept_cell b3 q4,((HV.out).kept q4).free 0 rfl,((HV.out).kept q4).free 3 rfl⟩) | (go_at_call 47;refine (CB.out _).mono ?_;rintro e v5 ⟨rfl,q5⟩;have q6:Q w2 v5:=q4.trans ⟨q5⟩;have hS6:v5.cell? ⟨w.heap.size,0,none⟩=some (.string r.key)∧v5.cell? ⟨w.heap.size,3,none⟩=some (.string r.body)∧v5.frozen? ⟨w.heap.size,0,none⟩=false∧v5.frozen? ⟨w.heap.size,3,none⟩=false:=⟨kept_cell b0 q6,kept_cell b3 q6,((HV.out).kept q6).free 0 rfl,((HV.out).kept q6).free 3 rfl⟩;have hV7:=(HV.out.kept q6).set 0 (.string r.key);have hV8:=hV7.set 3 (.string r.body);have hS7:(v5.setCell ⟨w.heap.size,0,none⟩ (.string r.key)).cell? ⟨w.heap.size,0,none⟩=some (.string r.key)∧(v5.setCell ⟨w.heap.size,0,none⟩ (.string r.key)).cell? ⟨w.heap.size,3,none⟩=some (.string r.body)∧(v5.setCell ⟨w.heap.size,0,none⟩ (.string r.key)).frozen? ⟨w.heap.size,0,none⟩=false∧(v5.setCell ⟨w.heap.size,0,none⟩ (.string r.key)).frozen? ⟨w.heap.size,3,none⟩=false:=⟨hV7.cell 0 rfl,hV7.cell 3 rfl,hV7.free 0 rfl,hV7.free 3 rfl⟩;have hS8:((v5.setCell ⟨w.heap.size,0,none⟩ (.string r.key)).setCell ⟨w.heap.size,3,none⟩ (.string r.body)).cell? ⟨w.heap.size,0,none⟩=some (.string r.key)∧((v5.setCell ⟨w.heap.size,0,none⟩ (.string r.key)).setCell ⟨w.heap.size,3,none⟩ (.string r.body)).cell? ⟨w.heap.size,3,none⟩=some (.string r.body)∧((v5.setCell ⟨w.heap.size,0,none⟩ (.string r.key)).setCell ⟨w.heap.size,3,none⟩ (.string r.body)).frozen? ⟨w.heap.size,0,none⟩=false∧((v5.setCell ⟨w.heap.size,0,none⟩ (.string r.key)).setCell ⟨w.heap.size,3,none⟩ (.string r.body)).frozen? ⟨w.heap.size,3,none⟩=false:=⟨hV8.cell 0 rfl,hV8.cell 3 rfl,hV8.free 0 rfl,hV8.free 3 rfl⟩))
  have q8:Q w ((v5.setCell ⟨w.heap.size,0,none⟩ (.string r.key)).setCell ⟨w.heap.size,3,none⟩ (.string r.body)):=((q2'.trans q6).setCell (p:=⟨w.heap.size,0,none⟩) (Nat.le_refl _) _).setCell (p:=⟨w.heap.size,3,none⟩) (Nat.le_refl _) _
  have HV8:Hid (VarN ((v5.setCell ⟨w.heap.size,0,none⟩ (.string r.key)).setCell ⟨w.heap.size,3,none⟩ (.string r.body)) w.heap.size [.string r.key,.int .i64 r.stamp,.int .i64 r.kind,.string r.body]):=hV8
  clear hS8 hS7 hS6 hS5 hV7 hV8 q6 q5 q4 q3 q2' b0 b1 b2 b3 d0 d3 HV CK CB
  generalize ((v5.setCell ⟨w.heap.size,0,none⟩ (.string r.key)).setCell ⟨w.heap.size,3,none⟩ (.string r.body))=W8 at *
  have e0:=HV8.out.cell 0 rfl
  cases hl:S.lookK X.pend r.key with
  | none =>
   have HL:Hid (S.lookK X.pend r.key=none):=hl
   have PG:Hid _:=fun (W:World) (q:Q w W)=>pendGet_none (HA.out.kept q) HX.out r.key hl
   clear hl
   go_upto_region 5 with fail
   go_region_held3 (fun w'=>w'.cell? ⟨w.heap.size,0,none⟩=some (.string r.key))
    (first | exact e0 | exact hS5)
    (first | (go_at_call 52;refine (PG.out _ q8.drew).mono ?_;rintro e w9 ⟨rfl,q9⟩;have q10:Q W8 w9:=(Q.refl W8).drew.trans q9;have hS5:w9.cell? ⟨w.heap.size,0,none⟩=some (.string r.key):=kept_cell e0 q10))
   have q9':=q8.trans q10
   have HV9:Hid (VarN w9 w.heap.size [.string r.key,.int .i64 r.stamp,.int .i64 r.kind,.string r.body]):=HV8.out.kept q10
   clear hS5 q9 q10 HV8 q8 e0 PG
   obtain ⟨tg0,htg0⟩:∃ tg0,tg.more w.heap.size (o+1) 0=tg0:=⟨_,rfl⟩
   have H0:Hid (StoAt w9 tg0 o s d X ids ps):=(HA.out.keep (Nat.le_refl _) (fun b hb=>by rw [←htg0];exact Tags.more_old hb) (fun _ _ _=>rfl)).kept q9'
   have HT0:Hid ((∀ b,b<w.heap.size→tg0 b=tg b)∧tg0 w.heap.size=(o+1,0)):=⟨fun b hb=>by rw [←htg0];exact Tags.more_old hb,by rw [←htg0];exact Tags.more_new (Nat.le_refl _)⟩
   clear htg0 HA
   obtain ⟨j,hj⟩:∃ j,S.lowK (X.pend.map (·.1)) r.key=j:=⟨_,rfl⟩
   have HJ:Hid (S.lowK (X.pend.map (·.1)) r.key=j∧j≤X.pend.length):=⟨hj,by have:=S.lowK_le (X.pend.map (·.1)) r.key;rw [List.length_map] at this;omega⟩
   have PN:Hid (∀ _:Unit,Calls Tryz.prog 53 #[.pointer (some ⟨s,6,none⟩),.string r.key,.pointer (some ⟨w9.heap.size,0,none⟩)] (w9.alloc (.cells #[.slice none 0 0,.slice none 0 0] 109)).drew fun e w'=>e=.returned (.tuple #[]) ∧
     ∃ tg':Tags,(∀ b,b<w9.heap.size→tg' b=tg0 b)∧StoAt w' tg' o s d { X with pend:=insAt X.pend j (r.key,[])} (insAt ids j (freshId ids)) (insAt ps j w9.heap.size)∧Only o tg0 w9 w'):=fun _=>by
    have h1:=putNew (H0.out.kept (Q.refl w9).drew) HX.out r.key HL.out 109
    rw [hj] at h1
    refine h1.mono ?_
    rintro e w' ⟨he,tg',ht,hS,hO⟩
    exact ⟨he,tg',ht,hS,(Only.of_q (Q.refl w9).drew).join hO (fun _ _=>rfl)⟩
   clear hj
   have hA:=HV9.out.kept ((Q.refl w9).alloc #[.slice none 0 0,.slice none 0 0] 109)
   have e0:=hA.cell 0 rfl
   clear hA
   go_upto_region 8 with fail
   go_region_held3 (fun w'=>w'.cell? ⟨w.heap.size,0,none⟩=some (.string r.key))
    (first | exact e0 | exact hS5)
    (first | (go_at_call 53;refine (PN.out ()).mono ?_;rintro e w10 ⟨rfl,hN⟩;have HN:Hid (∃ tg':Tags,(∀ b,b<w9.heap.size→tg' b=tg0 b)∧StoAt w10 tg' o s d { X with pend:=insAt X.pend j (r.key,[])} (insAt ids j (freshId ids)) (insAt ps j w9.heap.size)∧Only o tg0 w9 w10):=hN;have HV10:Hid (VarN w10 w.heap.size [.string r.key,.int .i64 r.stamp,.int .i64 r.kind,.string r.body]):=(by (obtain ⟨tg1,_,_,hO1⟩:=hN;exact HV9.out.of_block (hO1.block _ HV9.out.1 (by rw [HT0.out.2];simp)) hO1.size));have hS5:=HV10.out.cell 0 rfl))
   clear hN hS5 e0 PN
   obtain ⟨tg1,ht1,hS1,hO1⟩:=HN.out
   have hlp:ps.length=X.pend.length:=by have:=H0.out.pd.len;simpa [ptrVals] using this
   have hp:(insAt ps j w9.heap.size)[j]?=some w9.heap.size:=insAt_self (by rw [hlp];exact HJ.out.2) _
   have hid:(insAt ids j (freshId ids))[j]?=some (freshId ids):=insAt_self (by rw [H0.out.lenI];exact HJ.out.2) _
   have hkr:(insAt X.pend j (r.key,([]:List Rec)))[j]?=some (r.key,[]):=insAt_self HJ.out.2 _
   obtain ⟨g1,g2,g3⟩:=hS1.inner j _ _ _ hp hid hkr
   have RP:Hid _:=fun (_:Unit)=>rPut tg1 o w9.heap.size (6+3*freshId ids) [] r List.Pairwise.nil (by simp) (fun x hx=>by simp at hx) w10 g1 (by rw [g2];simp;omega) ⟨g3 0,g3 1⟩
   have HS1:Hid (StoAt w10 tg1 o s d { X with pend:=insAt X.pend j (r.key,[])} (insAt ids j (freshId ids)) (insAt ps j w9.heap.size)):=hS1
   have HI:Hid ((insAt ps j w9.heap.size)[j]?=some w9.heap.size∧(insAt ids j (freshId ids))[j]?=some (freshId ids)∧(insAt X.pend j (r.key,([]:List Rec)))[j]?=some (r.key,[])):=⟨hp,hid,hkr⟩
   have HO1:Hid (Only o tg0 w9 w10∧∀ b,b<w9.heap.size→tg1 b=tg0 b):=⟨hO1,ht1⟩
   unfold Rec.val at RP
   have e0:=HV10.out.cell 0 rfl
   have e1:=HV10.out.cell 1 rfl
   have e2:=HV10.out.cell 2 rfl
   have e3:=HV10.out.cell 3 rfl
   clear hp hid hkr g1 g2 g3 hS1 hO1 ht1 hlp HRr HN
   go_wp2_with fail
   refine (RP.out ()).mono ?_
   rintro e w11 ⟨rfl,hN⟩
   have HN:Hid (RMapNew tg1 o w9.heap.size (6+3*freshId ids) ([]++[r]) w10 w11):=hN
   clear hN e0 e1 e2 e3 RP
   go_wp2_with fail
   go_ret
   obtain ⟨hp,hid,hkr⟩:=HI.out
   obtain ⟨tg2,ht2,hS2,hO2⟩:=HS1.out.turnInner hp hid hkr HN.out
   obtain ⟨hO1,ht1⟩:=HO1.out
   have hsz:w.heap.size≤w9.heap.size:=q9'.below.size
   refine ⟨rfl,tg2,insAt ids j (freshId ids),insAt ps j w9.heap.size,fun b hb=>(ht2 b (Nat.lt_of_lt_of_le (Nat.lt_of_lt_of_le hb hsz) hO1.size)).trans ((ht1 b (Nat.lt_of_lt_of_le hb hsz)).trans (HT0.out.1 b hb)),?_,((Only.of_q q9').join hO1 HT0.out.1).join hO2 (fun b hb=>(ht1 b (Nat.lt_of_lt_of_le hb hsz)).trans (HT0.out.1 b hb))⟩
   unfold S.Sto.put
   rw [HL.out]
   simp only
   rw [HJ.out.1]
   have hset:(insAt X.pend j (r.key,([]:List Rec))).set j (r.key,[]++[r])=insAt X.pend j (r.key,[r]):=by
    unfold insAt
    have hlj:(X.pend.take j).length=j:=by rw [List.length_take];exact Nat.min_eq_left HJ.out.2
    rw [List.set_append_right _ _ (by omega),hlj,Nat.sub_self]
    rfl
   rw [←hset]
   exact hS2
  | some rs =>
   obtain ⟨i,p,id,hp,hid,hkr⟩:∃ i p id,ps[i]?=some p∧ids[i]?=some id∧X.pend[i]?=some (r.key,rs):=by
    obtain ⟨_,h2⟩:=S.lookK_some HX.out.pdUp hl
    have hi:=(List.getElem?_eq_some_iff.1 h2).1
    have hlen:ps.length=X.pend.length:=by have:=HA.out.pd.len;simpa [ptrVals] using this
    exact ⟨_,_,_,List.getElem?_eq_getElem (by rw [hlen];exact hi),List.getElem?_eq_getElem (by rw [HA.out.lenI];exact hi),h2⟩
   have PG:Hid _:=fun (W:World) (q:Q w W)=>pendGet_some (HA.out.kept q) HX.out r.key hp hkr
   have HI:Hid (ps[i]?=some p∧ids[i]?=some id∧X.pend[i]?=some (r.key,rs)∧S.lookK X.pend r.key=some rs):=⟨hp,hid,hkr,hl⟩
   clear hp hid hkr hl
   go_upto_region 5 with fail
   go_region_held3 (fun w'=>w'.cell? ⟨w.heap.size,0,none⟩=some (.string r.key))
    (first | exact e0 | exact hS5)
    (first | (go_at_call 52;refine (PG.out _ q8.drew).mono ?_;rintro e w9 ⟨rfl,q9⟩;have q10:Q W8 w9:=(Q.refl W8).drew.trans q9;have hS5:w9.cell? ⟨w.heap.size,0,none⟩=some (.string r.key):=kept_cell e0 q10))
   have q9':=q8.trans q10
   have HV9:Hid (VarN w9 w.heap.size [.string r.key,.int .i64 r.stamp,.int .i64 r.kind,.string r.body]):=HV8.out.kept q10
   clear hS5 q9 q10 HV8 q8 e0 PG
   obtain ⟨tg0,htg0⟩:∃ tg0,tg.more w.heap.size (o+1) 0=tg0:=⟨_,rfl⟩
   have H0:Hid (StoAt w9 tg0 o s d X ids ps):=(HA.out.keep (Nat.le_refl _) (fun b hb=>by rw [←htg0];exact Tags.more_old hb) (fun _ _ _=>rfl)).kept q9'
   have HT0:Hid ((∀ b,b<w.heap.size→tg0 b=tg b)∧tg0 w.heap.size=(o+1,0)):=⟨fun b hb=>by rw [←htg0];exact Tags.more_old hb,by rw [←htg0];exact Tags.more_new (Nat.le_refl _)⟩
   clear htg0 HA
   have RP:Hid _:=fun (_:Unit)=>by
    obtain ⟨hp,hid,hkr,hl⟩:=HI.out
    obtain ⟨g1,g2,g3⟩:=H0.out.inner i p id _ hp hid hkr
    obtain ⟨x1,x2,x3⟩:=HX.out.each _ (List.mem_of_getElem? hkr)
    exact rPut tg0 o p (6+3*id) rs r x1 (by have:=x3;simp only at this;omega) (HRr.out _ (List.mem_of_getElem? hkr) rfl) w9 g1 (by rw [g2];simp;omega) ⟨g3 0,g3 1⟩
   unfold Rec.val at RP
   have e0:=HV9.out.cell 0 rfl
   have e1:=HV9.out.cell 1 rfl
   have e2:=HV9.out.cell 2 rfl
   have e3:=HV9.out.cell 3 rfl
   clear HRr
   go_wp2_with fail
   refine (RP.out ()).mono ?_
   rintro e w10 ⟨rfl,hN⟩
   have HN:Hid (RMapNew tg0 o p (6+3*id) (rs++[r]) w9 w10):=hN
   clear hN e0 e1 e2 e3 RP
   go_wp2_with fail
   go_ret
   obtain ⟨hp,hid,hkr,hl⟩:=HI.out
   obtain ⟨tg2,ht2,hS2,hO2⟩:=H0.out.turnInner hp hid hkr HN.out
   refine ⟨rfl,tg2,ids,ps,fun b hb=>(ht2 b (Nat.lt_of_lt_of_le hb q9'.below.size)).trans (HT0.out.1 b hb),?_,(Only.of_q q9').join hO2 HT0.out.1⟩
   have hlow:=S.lookK_some HX.out.pdUp hl
   have hii:S.lowK (X.pend.map (·.1)) r.key=i:=S.lowK_mem HX.out.pdUp (by rw [List.getElem?_map,hkr];rfl)
   unfold S.Sto.put
   rw [hl]
   simp only
   rw [hii]
   exact hS2
 ·rw [if_neg ha]
  generalize X.adding r=z at *
  have hz:(z != 0)=true:=by simpa using ha
  have HA:Hid (StoAt w tg o s d X ids ps):=h
  clear h hr hf
  go_enter Tryz.func30,Tryz.ntmps30
  go_wp2_with fail
  refine (AD.out _ ((Q.refl w).alloc _ _)).mono ?_
  rintro e w2 ⟨rfl,q2⟩
  have q2':Q w w2:=((Q.refl w).alloc _ _).trans q2
  clear AD q2
  go_wp2_with fail
  go_ret
  exact ⟨rfl,tg,ids,ps,fun _ _=>rfl,HA.out.kept q2',Only.of_q q2'⟩
end Go.Proofs.YtekdenkllipehabGreatDoor
namespace Go.Proofs.YtekdenkllipehabGreatDoor.S
theorem lookK_iff {α:Type} {l:List (ByteArray × α)} (hr:Rising (l.map (·.1))) {k:ByteArray} {a:α}:lookK l k=some a↔(k,a)∈l:=by
 constructor
 ·intro h
  exact List.mem_of_getElem? (lookK_some hr h).2
 ·intro h
  obtain ⟨i,hi⟩:=List.mem_iff_getElem?.1 h
  have hk:(l.map (·.1))[i]?=some k:=by rw [List.getElem?_map,hi];rfl
  cases hl:lookK l k with
  | none =>
   have h1:=lookK_none hl
   rw [hasK_iff.2 (List.mem_of_getElem? hk)] at h1
   cases h1
  | some b =>
   have h2:=(lookK_some hr hl).2
   rw [lowK_mem hr hk,hi] at h2
   injection h2 with h2
   injection h2 with _ h2
   rw [h2]
theorem rising_ins {ks:List ByteArray} (hr:Rising ks) {k:ByteArray} (hn:hasK ks k=false):Rising (insAt ks (lowK ks k) k):=by
 unfold insAt Rising
 have hne:∀ x∈ks,x≠k:=fun x hx e=>by
  have h2:=hasK_iff.2 (e▸hx:k∈ks)
  rw [hn] at h2
  cases h2
 have hlo:∀ x∈ks.take (lowK ks k),kless x k:=fun x hx=>by
  obtain ⟨i,hi⟩:=List.mem_iff_getElem?.1 hx
  rw [List.getElem?_take] at hi
  split at hi
  ·rename_i h;exact lowK_before hi h
  ·cases hi
 have hhi:∀ x∈ks.drop (lowK ks k),kless k x:=fun x hx=>by
  obtain ⟨i,hi⟩:=List.mem_iff_getElem?.1 hx
  rw [List.getElem?_drop] at hi
  have h1:=lowK_behind hr hi (Nat.le_add_right _ _)
  rcases kless_total x k with h|h|h
  ·exact absurd h h1
  ·exact absurd h (hne x (List.mem_of_getElem? hi))
  ·exact h
 rw [List.pairwise_append]
 refine ⟨hr.sublist (List.take_sublist _ _),List.pairwise_cons.2 ⟨hhi,hr.sublist (List.drop_sublist _ _)⟩,fun a ha b hb=>?_⟩
 rcases List.mem_cons.1 hb with e|e
 ·rw [e];exact hlo a ha
 ·exact kless_trans (hlo a ha) (hhi b e)
theorem mem_insAt {α:Type} {l:List α} {j:Nat} {x a:α}:a∈insAt l j x↔a=x∨a∈l:=by
 have e:a∈l↔a∈l.take j∨a∈l.drop j:=by rw [←List.mem_append,List.take_append_drop]
 rw [e]
 simp only [insAt,List.mem_append,List.mem_cons]
 constructor
 ·rintro (h|h|h)
  ·exact Or.inr (Or.inl h)
  ·exact Or.inl h
  ·exact Or.inr (Or.inr h)
 ·rintro (h|h|h)
  ·exact Or.inr (Or.inl h)
  ·exact Or.inl h
  ·exact Or.inr (Or.inr h)
theorem keys_set {l:List (ByteArray × List Rec)} {i:Nat} {k:ByteArray} {rs rs':List Rec} (hk:l[i]?=some (k,rs)):(l.set i (k,rs')).map (·.1)=l.map (·.1):=by
 rw [List.map_set]
 refine List.ext_getElem? fun j=>?_
 rw [List.getElem?_set]
 by_cases hij:i=j
 ·subst hij
  have hl:=(List.getElem?_eq_some_iff.1 hk).1
  rw [List.getElem?_map,hk]
  simp [hl]
 ·simp [hij]
theorem Sto.put_ok {X:Sto} (hX:X.Ok) (r:Rec) (hf:X.pend.length<1048000∧∀ kr∈X.pend,kr.2.length<1048000)
  (hr:∀ kr∈X.pend,kr.1=r.key→∀ x∈kr.2,x.stamp<r.stamp):(X.put r).Ok:=by
 cases hl:lookK X.pend r.key with
 | none =>
  have e:X.put r={ X with pend:=insAt X.pend (lowK (X.pend.map (·.1)) r.key) (r.key,[r])}:=by unfold Sto.put;rw [hl]
  have hlow:=lowK_le (X.pend.map (·.1)) r.key
  rw [List.length_map] at hlow
  rw [e]
  refine ⟨hX.nwUp,?_,hX.nwFew,?_,fun kr hkr=>?_⟩
  ·show Rising ((insAt X.pend _ (r.key,[r])).map (·.1))
   rw [map_insAt]
   exact rising_ins hX.pdUp (lookK_none hl)
  ·show (insAt X.pend _ _).length≤_
   rw [insAt_length hlow]
   omega
  ·rcases mem_insAt.1 hkr with e|h
   ·subst e
    exact ⟨List.pairwise_singleton _ _,by simp,by simp⟩
   ·exact hX.each kr h
 | some rs =>
  have e:X.put r={ X with pend:=X.pend.set (lowK (X.pend.map (·.1)) r.key) (r.key,rs++[r])}:=by unfold Sto.put;rw [hl]
  obtain ⟨_,h2⟩:=lookK_some hX.pdUp hl
  have hm:=List.mem_of_getElem? h2
  rw [e]
  refine ⟨hX.nwUp,?_,hX.nwFew,?_,fun kr hkr=>?_⟩
  ·show Rising ((X.pend.set _ (r.key,rs++[r])).map (·.1))
   rw [keys_set h2]
   exact hX.pdUp
  ·show (X.pend.set _ _).length≤_
   rw [List.length_set]
   exact hX.pdFew
  ·rcases List.mem_or_eq_of_mem_set hkr with h|h
   ·exact hX.each kr h
   ·subst h
    have h1:=hX.each _ hm
    have h3:=hf.2 _ hm
    refine ⟨?_,by simp,by simp at h3 ⊢;omega⟩
    unfold Up
    rw [List.pairwise_append]
    exact ⟨h1.1,List.pairwise_singleton _ _,fun a ha b hb=>by rw [List.mem_singleton.1 hb];exact hr _ hm rfl a ha⟩
theorem Sto.lookK_put {X:Sto} (hX:X.Ok) (r:Rec) (hP:(X.put r).Ok) (k:ByteArray):lookK (X.put r).pend k=if k=r.key then some ((lookK X.pend r.key).getD []++[r]) else lookK X.pend k:=by
 refine Option.ext fun a=>?_
 rw [lookK_iff hP.pdUp]
 cases hl:lookK X.pend r.key with
 | none =>
  have e:(X.put r).pend=insAt X.pend (lowK (X.pend.map (·.1)) r.key) (r.key,[r]):=by unfold Sto.put;rw [hl]
  rw [e,mem_insAt]
  by_cases hk:k=r.key
  ·subst hk
   simp only [if_true,Option.getD_none,List.nil_append,Option.some.injEq]
   constructor
   ·rintro (h|h)
    ·injection h with _ h;exact h.symm
    ·rw [←lookK_iff hX.pdUp,hl] at h;cases h
   ·rintro rfl
    exact Or.inl rfl
  ·rw [if_neg hk,lookK_iff hX.pdUp]
   constructor
   ·rintro (h|h)
    ·injection h with h _;exact absurd h hk
    ·exact h
   ·exact Or.inr
 | some rs =>
  have e:(X.put r).pend=X.pend.set (lowK (X.pend.map (·.1)) r.key) (r.key,rs++[r]):=by unfold Sto.put;rw [hl]
  obtain ⟨_,h2⟩:=lookK_some hX.pdUp hl
  have hi:=(List.getElem?_eq_some_iff.1 h2).1
  by_cases hk:k=r.key
  ·subst hk
   rw [←lookK_iff hP.pdUp]
   have h3:lookK (X.put r).pend r.key=some (rs++[r]):=by
    rw [lookK_iff hP.pdUp,e]
    exact List.mem_of_getElem? (List.getElem?_set_self hi)
   rw [h3]
   simp
  ·rw [if_neg hk,lookK_iff hX.pdUp,e]
   constructor
   ·intro h
    rcases List.mem_or_eq_of_mem_set h with h|h
    ·exact h
    ·injection h with h _;exact absurd h hk
   ·intro h
    obtain ⟨i',hi'⟩:=List.mem_iff_getElem?.1 h
    have hne:lowK (X.pend.map (·.1)) r.key≠i':=fun e2=>by
     rw [e2,hi'] at h2
     injection h2 with h2
     injection h2 with h2 _
     exact hk h2
    exact List.mem_of_getElem? ((List.getElem?_set_ne hne).trans hi')
end Go.Proofs.YtekdenkllipehabGreatDoor.S
namespace Go.Proofs.YtekdenkllipehabGreatDoor
open Go.RowKit
theorem flush_idle {w:World} {tg:Tags} {o s d:Nat} {X:S.Sto} {ids ps:List Nat} (h:StoAt w tg o s d X ids ps) (hd:X.dead=false) (hp:X.isPending=false) :
  Calls Tryz.prog 31 #[.pointer (some ⟨s,0,none⟩)] w fun e w'=>e=.returned (.int .i64 0)∧Q w w':=by
 have c1:=h.c1
 rw [hd] at c1
 have IP:Hid _:=fun (_:Unit)=>isPending_any h
 rw [hp] at IP
 clear h
 go_enter Tryz.func31,Tryz.ntmps31
 go_wp2_with fail
 refine (IP.out ()).mono ?_
 rintro e w1 ⟨rfl,q1⟩
 go_wp2_with fail
 go_ret
 exact ⟨rfl,q1⟩
theorem compact_pending {w:World} {tg:Tags} {o s d:Nat} {X:S.Sto} {ids ps:List Nat} (h:StoAt w tg o s d X ids ps) (hd:X.dead=false) (hp:X.isPending=true) :
  Calls Tryz.prog 15 #[.pointer (some ⟨s,0,none⟩)] w fun e w'=>e=.returned (.int .i64 13)∧Q w w':=by
 have c1:=h.c1
 rw [hd] at c1
 have q0:Q w (w.alloc (.cells #[.pointer (some ⟨s,0,none⟩)] 30)):=(Q.refl w).alloc _ _
 have k1:=kept_cell c1 q0
 have IP:Hid _:=fun (_:Unit)=>isPending_any (h.kept q0)
 rw [hp] at IP
 clear h
 go_enter Tryz.func15,Tryz.ntmps15
 go_wp2_with fail
 refine (IP.out ()).mono ?_
 rintro e w1 ⟨rfl,q1⟩
 go_wp2_with fail
 go_ret
 exact ⟨rfl,q0.trans q1⟩
def Added (tg:Tags) (o s d:Nat) (X:S.Sto) (r:Rec) (w:World) (e:Ending) (w':World):Prop:=
 e=.returned (.int .i64 (X.adding r))∧∃ tg' ids' ps',(∀ b,b<w.heap.size→tg' b=tg b)∧StoAt w' tg' o s d (if X.adding r=0 then X.put r else X) ids' ps'∧Only o tg w w'
theorem put_any {w:World} {tg:Tags} {o s d:Nat} {X:S.Sto} {ids ps:List Nat} (h:StoAt w tg o s d X ids ps) (hX:X.Ok) (k:ByteArray) (t:Int) (v:ByteArray) (hf:X.pend.length<1048000∧∀ kr∈X.pend,kr.2.length<1048000)
  (hr:X.adding ⟨k,t,0,v⟩=0→∀ kr∈X.pend,kr.1=k→∀ x∈kr.2,x.stamp<t) :
  Calls Tryz.prog 11 #[.pointer (some ⟨s,0,none⟩),.string k,.int .i64 t,.string v] w fun e w'=>Added tg o s d X ⟨k,t,0,v⟩ w e w':=by
 have AD:Hid _:=fun (_:Unit)=>add_any h hX ⟨k,t,0,v⟩ hf hr
 unfold Rec.val at AD
 clear h hX hf hr
 go_enter Tryz.func11,Tryz.ntmps11
 go_wp2_with fail
 refine (AD.out ()).mono ?_
 rintro e w1 ⟨rfl,hP⟩
 have HP:Hid _:=hP
 clear hP AD
 go_wp2_with fail
 go_ret
 exact ⟨rfl,HP.out⟩
theorem delete_any {w:World} {tg:Tags} {o s d:Nat} {X:S.Sto} {ids ps:List Nat} (h:StoAt w tg o s d X ids ps) (hX:X.Ok) (k:ByteArray) (t:Int) (hf:X.pend.length<1048000∧∀ kr∈X.pend,kr.2.length<1048000)
  (hr:X.adding ⟨k,t,2,⟨#[]⟩⟩=0→∀ kr∈X.pend,kr.1=k→∀ x∈kr.2,x.stamp<t) :
  Calls Tryz.prog 28 #[.pointer (some ⟨s,0,none⟩),.string k,.int .i64 t] w fun e w'=>Added tg o s d X ⟨k,t,2,⟨#[]⟩⟩ w e w':=by
 have AD:Hid _:=fun (_:Unit)=>add_any h hX ⟨k,t,2,⟨#[]⟩⟩ hf hr
 unfold Rec.val at AD
 clear h hX hf hr
 go_enter Tryz.func28,Tryz.ntmps28
 go_wp2_with fail
 refine (AD.out ()).mono ?_
 rintro e w1 ⟨rfl,hP⟩
 have HP:Hid _:=hP
 clear hP AD
 go_wp2_with fail
 go_ret
 exact ⟨rfl,HP.out⟩
end Go.Proofs.YtekdenkllipehabGreatDoor
