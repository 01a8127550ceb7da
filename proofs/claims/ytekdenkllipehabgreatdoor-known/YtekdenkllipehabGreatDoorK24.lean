import Derived.Test.YtekdenkllipehabGreatDoorK17
import Derived.Test.YtekdenkllipehabGreatDoorK21
import Derived.Shelf.Spec.SlicesInsert
import Derived.Laws.Rows
import Derived.Lib.SlicesDelete
import Derived.Maps.AppendAt
set_option maxRecDepth 100000
set_option maxHeartbeats 8000000
namespace Go.Proofs.YtekdenkllipehabGreatDoor
open Go.RowKit
theorem told_piece (n:Nat) (hn:n<72057594037927936):∃ a:ByteArray,a.size≤8∧Hid (a.data.toList=M.enc 7 n) ∧
  Hid (∀ W:World,Calls Tryz.prog 125 #[.int .i64 (n:Int)] W fun e w'=>e=.returned (.string a)∧Q W w'):=by
 refine ⟨⟨(M.enc 7 n).toArray⟩,?_,?_,?_⟩
 ·have:=enc_length 7 n
  simpa [ByteArray.size] using this
 ·exact List.toList_toArray ..
 ·exact fun W=>number_any n hn W
theorem cell_grown {w w':World} {row:Option Nat} {p:Addr} {v:Value} (hg:w.grownBy w' row) (h:w.cell? p=some v) (hne:row≠some p.block):w'.cell? p=some v:=
 (World.cell?_of_block (hg.block p.block (cell_lt4 h) (fun e=>hne e.symm))).trans h
theorem conv_byte (k:Nat) (W:World) (b:Nat) (h:W.cell? ⟨b,0,none⟩=some (.int .u8 (k:Int))) :
  (convert 88 9 (.slice (some ⟨b,0,none⟩) 1 1)).run Tryz.prog W=.ok (.string ⟨#[UInt8.ofNat k]⟩) W:=
 run_convert_bytes_arg (P:=Tryz.prog) W 88 5 Tryz.underlying88 Tryz.underlying5 b 0 1 1 [(k:Int)] rfl (fun i hi=>by
  obtain rfl:i=0:=by omega
  simpa using h) 9 Tryz.underlying9
theorem aheadKey_shared {rs:List Rec} {k:Nat} {r:Rec} (hr:rs[k]?=some r):common (aheadKey rs k).data.toList r.key.data.toList=sharedAt rs k r:=by
 unfold aheadKey sharedAt
 by_cases h8:k % 8=0
 ·rw [if_pos h8,if_neg (by omega)]
  rfl
 ·rw [if_neg h8,if_pos (by omega)]
  match k with
  | 0=>simp at h8
  | k+1 =>
   have hl:k+1<rs.length:=(List.getElem?_eq_some_iff.1 hr).1
   have hg:rs[k]?=some rs[k]:=List.getElem?_eq_getElem (by omega)
   simp only [before,Nat.add_sub_cancel,hg,List.getD,Option.map_some,Option.getD_some]
theorem seven_cat (P:List ByteArray) (r:Rec) (rs:List Rec) (k st kd:Nat) (hst:r.stamp=(st:Int)) (hkd:r.kind=(kd:Int)) (a1 a2 a3 a4:ByteArray)
  (h1:a1.data.toList=M.enc 7 (sharedAt rs k r)) (h2:a2.data.toList=M.enc 7 (r.key.size-sharedAt rs k r)) (h3:a3.data.toList=M.enc 7 st) (h4:a4.data.toList=M.enc 7 r.body.size) :
  M.cat (P++[a1,a2,r.key.extract (sharedAt rs k r) r.key.size,a3,⟨#[UInt8.ofNat kd]⟩,a4,r.body])=M.cat P++entry rs k r:=by
 rw [M.cat_append]
 congr 1
 unfold entry
 rw [hst,hkd]
 have hx:(r.key.extract (sharedAt rs k r) r.key.size).data.toList=r.key.data.toList.drop (sharedAt rs k r):=by
  rw [ByteArray.data_extract,Array.toList_extract,List.extract_eq_take_drop,List.take_of_length_le (by simp)]
 simp only [M.cat,List.flatMap_cons,List.flatMap_nil,h1,h2,h3,h4,hx,Int.toNat_natCast,List.append_assoc,List.append_nil]
theorem blkWrite_any (rs:List Rec) (t:List UInt8) (ht:plainText rs=some t) (ao:Option Addr) (cap:Nat) (w:World) (h:Rcs w ao rs) :
  Calls Tryz.prog 139 #[.slice ao rs.length cap] w fun e w'=>e=.returned (.string ⟨t.toArray⟩)∧Q w w':=by
 obtain ⟨h64,hT⟩:=plainText_some ht
 have hlt:=textTo_length hT
 have HT:Hid (textTo rs rs.length=some t):=hT
 have HN:Hid (∀ (k:Nat) (u:List UInt8) (r:Rec),textTo rs k=some u→rs[k]?=some r→textTo rs (k+1)=some (u++entry rs k r)∧r.fits=true):=fun k u r hu hr=>by
  have hk:k<rs.length:=(List.getElem?_eq_some_iff.1 hr).1
  obtain ⟨x,q,hx,_⟩:=textTo_head hT (k+1) (by omega)
  obtain ⟨e1,e2⟩:=textTo_step hu hr hx
  exact ⟨by rw [hx,e1],e2⟩
 have HH:Hid (Rcs w ao rs):=h
 have HKA:Hid _:=keyAhead_any
 have HSB:Hid _:=same_any
 obtain ⟨a0,ha0,hA0,H0⟩:=told_piece rs.length (by omega)
 have HT0:Hid (textTo rs 0=some (M.cat [a0])):=by show _=_;rw [M.cat_one,hA0.out];rfl
 obtain ⟨i0,hi,hz0,hz1,hz2⟩:=info_parts infoString
 clear h ht hT
 go_enter Tryz.func139,Tryz.ntmps139
 go_wp2_with fail
 refine (H0.out _).mono ?_
 rintro e w1 ⟨rfl,q1⟩
 have hp0:Parts w [a0] (some ⟨w1.heap.size,0,none⟩) 1 (w1.alloc (.cells #[.string a0] 9)):=by
  have hs:=q1.below.size
  refine ⟨q1.below.alloc hs _,?_⟩
  refine ⟨rfl,Or.inr ⟨w1.heap.size,1,#[.string a0],rfl,hs,heap_alloc_new w1 _,Nat.le_refl _,by decide,rfl,rfl⟩⟩
 go_wp2_with fail
 go_loopw [3,13] (fun p i wr=>∃ (k:Nat) (P:List ByteArray) (ap:Option Addr) (cp:Nat),k≤rs.length∧i=.int .i64 k∧p=.slice ap P.length cp∧textTo rs k=some (M.cat P)∧P.length=1+7*k∧Parts w P ap cp wr) (fun _ i _=>rs.length-(intOf i).toNat)
 case atStart=>exact ⟨0,[a0],_,_,Nat.zero_le _,rfl,rfl,HT0.out,rfl,hp0⟩
 case round =>
  obtain ⟨k,P,ap,cp,hk,rfl,rfl,htx,hPl,hp⟩:=hrel
  have HPl:Hid (P.length=1+7*k):=hPl
  have hPle:P.length≤449:=by omega
  clear hPl
  by_cases hlk:k<rs.length
  ·have hg:rs[k]?=some rs[k]:=List.getElem?_eq_getElem hlk
   obtain ⟨hnx,hf⟩:=HN.out k _ _ htx hg
   obtain ⟨b,off,rfl,hb,hat⟩:=(HH.out.kept ⟨hp.below⟩).at hlk
   obtain ⟨c0,c1,c2,c3⟩:=hat k _ hg
   have hsh:=aheadKey_shared hg
   have hsl:=sharedAt_le rs k rs[k]
   have HKP:Hid _:=seven_cat P rs[k] rs k
   have hkah:(aheadKey rs k).size≤140737488351232:=by
    unfold aheadKey
    split
    ·exact Nat.zero_le _
    ·match k with
     | 0=>rename_i h8;simp at h8
     | k+1 =>
      have hgk:rs[k]?=some rs[k]:=List.getElem?_eq_getElem (by omega)
      have hfk:(rs[k]).fits=true:=by
       obtain ⟨u,q,hu,_⟩:=textTo_head HT.out k (by omega)
       exact (HN.out k u _ hu hgk).2
      simp only [Rec.fits,decide_eq_true_eq] at hfk
      simp only [Nat.add_sub_cancel,hgk,Option.map_some,Option.getD_some]
      omega
   generalize rs[k]=r at *
   simp only [Rec.fits,decide_eq_true_eq] at hf
   obtain ⟨hf1,hf2,hf3,hf4,hf5,hf6,hf7⟩:=hf
   obtain ⟨st,hst⟩:=Int.eq_ofNat_of_zero_le hf4
   obtain ⟨kd,hkd⟩:=Int.eq_ofNat_of_zero_le hf6
   have qa:Q wr (wr.alloc (.cells #[.string r.key,.int .i64 (st:Int),.int .i64 (kd:Int),.string r.body] 62)):=(Q.refl wr).alloc _ _
   have KA:=HKA.out rs (some ⟨b,off,none⟩) rs.length cap k hk (Or.inl (Nat.le_refl _)) (by omega) (fun _=>hk) (wr.alloc (.cells #[.string r.key,.int .i64 (st:Int),.int .i64 (kd:Int),.string r.body] 62)).drew (Or.inr ⟨b,off,rfl,(hat.kept qa).kept (Q.refl _).drew⟩)
   have SB':=fun W=>HSB.out (aheadKey rs k) r.key hkah (by omega) W
   rw [hsh] at SB'
   have HKPr:Hid _:=HKP.out st kd hst hkd
   rw [hst] at c1
   rw [hkd] at c2
   have HNx:Hid _:=hnx
   obtain ⟨n,hn⟩:∃ n,n=sharedAt rs k r:=⟨_,rfl⟩
   rw [←hn] at SB' HKPr hsl
   generalize aheadKey rs k=ak at *
   obtain ⟨m,hm⟩:∃ m,m=r.key.size-n:=⟨_,rfl⟩
   rw [←hm] at HKPr
   obtain ⟨a1,ha1,hA1,H1⟩:=told_piece n (by omega)
   obtain ⟨a2,ha2,hA2,H2⟩:=told_piece m (by omega)
   obtain ⟨a3,ha3,hA3,H3⟩:=told_piece st (by omega)
   obtain ⟨a4,ha4,hA4,H4⟩:=told_piece r.body.size (by omega)
   have HTx:Hid (textTo rs (k+1)=some (M.cat (P++[a1,a2,r.key.extract n r.key.size,a3,⟨#[UInt8.ofNat kd]⟩,a4,r.body]))):=by
    show _=_
    rw [HKPr.out a1 a2 a3 a4 hA1.out hA2.out hA3.out hA4.out]
    exact HNx.out
   have hmw:IntKind.i64.wrap ((r.key.size:Int)-(n:Int))=(m:Int):=by rw [IntKind.wrap_i64];omega
   have hkw:IntKind.u8.wrap (kd:Int)=(kd:Int):=by rw [IntKind.wrap_u8];omega
   have hng:(n:Int)≤(r.key.size:Int):=by omega
   have hcv:=conv_byte kd
   have hseven:∀ u∈[Value.string a1,.string a2,.string (r.key.extract n r.key.size),.string a3,.string ⟨#[UInt8.ofNat kd]⟩,.string a4,.string r.body],u.oneCell'=true:=by
    intro u hu
    simp at hu
    rcases hu with rfl | rfl | rfl | rfl | rfl | rfl | rfl<;>rfl
   have hne:∀ j,(Value.slice ap P.length cp).ownBlock=some j→j<wr.heap.size:=fun j hj=>(hp.own.lt j hj).2
   have hpa:=hp.kept qa
   have KAh:Hid _:=fun (_:Unit)=>KA
   have SB:Hid _:=SB'
   clear KA SB' HKPr HNx hnx htx hsh hkah hst hkd hn hm hf1 hf4 hf5 hf6 hat HKP
   go_upto_region 5 with fail
   obtain ⟨wa,hwa⟩:∃ wa,wa=wr.alloc (.cells #[.string r.key,.int .i64 (st:Int),.int .i64 (kd:Int),.string r.body] 62):=⟨_,rfl⟩
   have v0:wa.cell? ⟨wr.heap.size,0,none⟩=some (.string r.key):=by rw [hwa];simp
   have v1:wa.cell? ⟨wr.heap.size,1,none⟩=some (.int .i64 (st:Int)):=by rw [hwa];simp
   have v2:wa.cell? ⟨wr.heap.size,2,none⟩=some (.int .i64 (kd:Int)):=by rw [hwa];simp
   have v3:wa.cell? ⟨wr.heap.size,3,none⟩=some (.string r.body):=by rw [hwa];simp
   rw [←hwa] at qa hpa KAh ⊢
   have KA:Hid _:=KAh
   clear KAh hwa hp c0 c1 c2 c3
   go_cut [6] (fun x wx=>x=.int .i64 (n:Int)∧Q wa wx)
   case first =>
    refine wp_region_held_drew (S:=fun w'=>Q wa w'∧w'.cell? ⟨wr.heap.size,0,none⟩=some (.string r.key)∧w'.cell? ⟨wr.heap.size,1,none⟩=some (.int .i64 (st:Int))∧w'.cell? ⟨wr.heap.size,2,none⟩=some (.int .i64 (kd:Int))∧w'.cell? ⟨wr.heap.size,3,none⟩=some (.string r.body)) (by kernel_rfl) ⟨(Q.refl _).drew,v0,v1,v2,v3⟩ (fun hHeld=>?_)
    refine tk3 (i:=0) (v:=?_) rfl (Or.inl ⟨by kernel_rfl,?_⟩) hHeld ?_
    rotate_left
    ·(intro w hSw;(try dsimp only at hSw);go_simp;try with_reducible rfl)
    try simp only [Act.put,nrm]
    refine tk3 (i:=1) (v:=?_) rfl (Or.inl ⟨by kernel_rfl,?_⟩) hHeld ?_
    rotate_left
    ·(intro w hSw;(try dsimp only at hSw);go_simp;try with_reducible rfl)
    try simp only [Act.put,nrm]
    refine tk3 (i:=3) (v:=?_) rfl (Or.inl ⟨by kernel_rfl,?_⟩) hHeld ?_
    rotate_left
    ·(intro w hSw;(try dsimp only at hSw);go_simp;try with_reducible rfl)
    try simp only [Act.put,nrm]
    refine tk3 (i:=4) (v:=?_) rfl (Or.inl ⟨by kernel_rfl,?_⟩) hHeld ?_
    rotate_left
    ·(intro w hSw;(try dsimp only at hSw);go_simp;try with_reducible rfl)
    try simp only [Act.put,nrm]
    refine wpAnyH_ready (rs:=[2]) (by kernel_rfl) (by simp) ?_
    refine AllReadyH.cons rfl (fun K hK=>?_) AllReadyH.nil
    go_simp
    refine (KA.out ()).mono ?_
    rintro e v1 ⟨rfl,q1⟩
    try go_wp2_with fail
    refine hK.out _ _ ⟨hHeld.1.trans q1,kept_cell hHeld.2.1 q1,kept_cell hHeld.2.2.1 q1,kept_cell hHeld.2.2.2.1 q1,kept_cell hHeld.2.2.2.2 q1⟩ (fun hHeld0=>?_)
    clear hK K hHeld
    have hHeld:=hHeld0
    clear hHeld0
    try simp only [Act.put,nrm]
    refine wpAnyH_ready (rs:=[5]) (by kernel_rfl) (by simp) ?_
    refine AllReadyH.cons rfl (fun K hK=>?_) AllReadyH.nil
    go_simp
    refine (SB.out _).mono ?_
    rintro e v2 ⟨rfl,q2⟩
    try go_wp2_with fail
    refine hK.out _ _ ⟨hHeld.1.trans q2,kept_cell hHeld.2.1 q2,kept_cell hHeld.2.2.1 q2,kept_cell hHeld.2.2.2.1 q2,kept_cell hHeld.2.2.2.2 q2⟩ (fun hHeld0=>?_)
    clear hK K hHeld
    have hHeld:=hHeld0
    clear hHeld0
    try simp only [Act.put,nrm]
    refine tk3 (i:=6) (v:=?_) rfl (Or.inl ⟨by kernel_rfl,?_⟩) hHeld ?_
    rotate_left
    ·(intro w hSw;(try dsimp only at hSw);go_simp;try with_reducible rfl)
    try simp only [Act.put,nrm]
    refine wpAnyH_done (by kernel_rfl) ?_ _
    go_wp2_with fail
    go_meet
    case rel=>exact ⟨rfl,hHeld.1⟩
   case rest =>
    obtain ⟨rfl,qc⟩:=hcut
    have z0:=kept_cell v0 qc
    have z1:=kept_cell v1 qc
    have z2:=kept_cell v2 qc
    have z3:=kept_cell v3 qc
    have hpc:=hpa.kept qc
    have hp:=hpc.kept (Q.refl _).drew
    have hqw:Q w wc:=⟨hpc.below⟩
    clear v0 v1 v2 v3 hpa KA SB qa qc hpc
    go_upto_region 6 with fail
    refine wp_region_held_drew (S:=fun w'=>Q w w'∧w'.cell? ⟨wr.heap.size,0,none⟩=some (.string r.key)∧w'.cell? ⟨wr.heap.size,1,none⟩=some (.int .i64 (st:Int))∧w'.cell? ⟨wr.heap.size,2,none⟩=some (.int .i64 (kd:Int))∧w'.cell? ⟨wr.heap.size,3,none⟩=some (.string r.body)) (by kernel_rfl) ⟨hqw.drew,kept_cell z0 (Q.refl _).drew,kept_cell z1 (Q.refl _).drew,kept_cell z2 (Q.refl _).drew,kept_cell z3 (Q.refl _).drew⟩ (fun hHeld=>?_)
    clear z0 z1 z2 z3 hqw
    refine tk3 (i:=0) (v:=?_) rfl (Or.inl ⟨by kernel_rfl,?_⟩) hHeld ?_
    rotate_left
    ·(intro w hSw;(try dsimp only at hSw);go_simp;try with_reducible rfl)
    try simp only [Act.put,nrm]
    refine tk3 (i:=1) (v:=?_) rfl (Or.inl ⟨by kernel_rfl,?_⟩) hHeld ?_
    rotate_left
    ·(intro w hSw;(try dsimp only at hSw);go_simp;try with_reducible rfl)
    try simp only [Act.put,nrm]
    refine tk3 (i:=3) (v:=?_) rfl (Or.inl ⟨by kernel_rfl,?_⟩) hHeld ?_
    rotate_left
    ·(intro w hSw;(try dsimp only at hSw);go_simp;try with_reducible rfl)
    try simp only [Act.put,nrm]
    refine tk3 (i:=4) (v:=?_) rfl (Or.inl ⟨by kernel_rfl,?_⟩) hHeld ?_
    rotate_left
    ·(intro w hSw;(try dsimp only at hSw);go_simp;try with_reducible rfl)
    try simp only [Act.put,nrm]
    refine tk3 (i:=5) (v:=?_) rfl (Or.inl ⟨by kernel_rfl,?_⟩) hHeld ?_
    rotate_left
    ·(intro w hSw;(try dsimp only at hSw);go_simp;try with_reducible rfl)
    try simp only [Act.put,nrm]
    refine tk3 (i:=6) (v:=?_) rfl (Or.inl ⟨by kernel_rfl,?_⟩) hHeld ?_
    rotate_left
    ·(intro w hSw;(try dsimp only at hSw);go_simp;try with_reducible rfl)
    try simp only [Act.put,nrm]
    refine tk3 (i:=7) (v:=?_) rfl (Or.inl ⟨by kernel_rfl,?_⟩) hHeld ?_
    rotate_left
    ·(intro w hSw;(try dsimp only at hSw);go_simp;try with_reducible rfl)
    try simp only [Act.put,nrm]
    refine tk3 (i:=9) (v:=?_) rfl (Or.inl ⟨by kernel_rfl,?_⟩) hHeld ?_
    rotate_left
    ·(intro w hSw;(try dsimp only at hSw);go_simp;try with_reducible rfl)
    try simp only [Act.put,nrm]
    refine tk3 (i:=10) (v:=?_) rfl (Or.inl ⟨by kernel_rfl,?_⟩) hHeld ?_
    rotate_left
    ·(intro w hSw;(try dsimp only at hSw);go_simp;try with_reducible rfl)
    try simp only [Act.put,nrm]
    refine tk3 (i:=11) (v:=?_) rfl (Or.inl ⟨by kernel_rfl,?_⟩) hHeld ?_
    rotate_left
    ·(intro w hSw;(try dsimp only at hSw);go_simp;try with_reducible rfl)
    try simp only [Act.put,nrm]
    refine tk3 (i:=12) (v:=?_) rfl (Or.inl ⟨by kernel_rfl,?_⟩) hHeld ?_
    rotate_left
    ·(intro w hSw;(try dsimp only at hSw);go_simp;try with_reducible rfl)
    try simp only [Act.put,nrm]
    refine tk3 (i:=13) (v:=?_) rfl (Or.inl ⟨by kernel_rfl,?_⟩) hHeld ?_
    rotate_left
    ·(intro w hSw;(try dsimp only at hSw);go_simp;try with_reducible rfl)
    try simp only [Act.put,nrm]
    refine tk3 (i:=14) (v:=?_) rfl (Or.inl ⟨by kernel_rfl,?_⟩) hHeld ?_
    rotate_left
    ·(intro w hSw;(try dsimp only at hSw);go_simp;try with_reducible rfl)
    try simp only [Act.put,nrm]
    refine tk3 (i:=16) (v:=?_) rfl (Or.inl ⟨by kernel_rfl,?_⟩) hHeld ?_
    rotate_left
    ·(intro w hSw;(try dsimp only at hSw);go_simp;try with_reducible rfl)
    try simp only [Act.put,nrm]
    refine tk3 (i:=17) (v:=?_) rfl (Or.inl ⟨by kernel_rfl,?_⟩) hHeld ?_
    rotate_left
    ·(intro w hSw;(try dsimp only at hSw);go_simp;try with_reducible rfl)
    try simp only [Act.put,nrm]
    refine tk3 (i:=18) (v:=?_) rfl (Or.inl ⟨by kernel_rfl,?_⟩) hHeld ?_
    rotate_left
    ·(intro w hSw;(try dsimp only at hSw);go_simp;try with_reducible rfl)
    try simp only [Act.put,nrm]
    refine tk3 (i:=21) (v:=?_) rfl (Or.inl ⟨by kernel_rfl,?_⟩) hHeld ?_
    rotate_left
    ·(intro w hSw;(try dsimp only at hSw);go_simp;try with_reducible rfl)
    try simp only [Act.put,nrm]
    refine tk3 (i:=22) (v:=?_) rfl (Or.inl ⟨by kernel_rfl,?_⟩) hHeld ?_
    rotate_left
    ·(intro w hSw;(try dsimp only at hSw);go_simp;try with_reducible rfl)
    try simp only [Act.put,nrm]
    refine tk3 (i:=23) (v:=?_) rfl (Or.inl ⟨by kernel_rfl,?_⟩) hHeld ?_
    rotate_left
    ·(intro w hSw;(try dsimp only at hSw);go_simp;try with_reducible rfl)
    try simp only [Act.put,nrm]
    refine tk3 (i:=25) (v:=?_) rfl (Or.inl ⟨by kernel_rfl,?_⟩) hHeld ?_
    rotate_left
    ·(intro w hSw;(try dsimp only at hSw);go_simp;try with_reducible rfl)
    try simp only [Act.put,nrm]
    refine tk3 (i:=26) (v:=?_) rfl (Or.inl ⟨by kernel_rfl,?_⟩) hHeld ?_
    rotate_left
    ·(intro w hSw;(try dsimp only at hSw);go_simp;try with_reducible rfl)
    try simp only [Act.put,nrm]
    refine wpAnyH_ready (rs:=[2,19]) (by kernel_rfl) (by simp) ?_
    refine AllReadyH.cons rfl (fun K hK=>?_) ?_
    ·go_simp
     refine (H1.out _).mono ?_
     rintro e v1 ⟨rfl,qv1⟩
     try go_wp2_with fail
     refine hK.out _ _ ⟨hHeld.1.trans qv1,kept_cell hHeld.2.1 qv1,kept_cell hHeld.2.2.1 qv1,kept_cell hHeld.2.2.2.1 qv1,kept_cell hHeld.2.2.2.2 qv1⟩ (fun hHeld0=>?_)
     clear hK K hHeld
     have hHeld:=hHeld0
     clear hHeld0
     replace hp:=hp.kept qv1
     try simp only [Act.put,nrm]
     refine wpAnyH_ready (rs:=[8,19]) (by kernel_rfl) (by simp) ?_
     refine AllReadyH.cons rfl (fun K hK=>?_) ?_
     ·go_simp
      refine (H2.out _).mono ?_
      rintro e v2 ⟨rfl,qv2⟩
      try go_wp2_with fail
      refine hK.out _ _ ⟨hHeld.1.trans qv2,kept_cell hHeld.2.1 qv2,kept_cell hHeld.2.2.1 qv2,kept_cell hHeld.2.2.2.1 qv2,kept_cell hHeld.2.2.2.2 qv2⟩ (fun hHeld0=>?_)
      clear hK K hHeld
      have hHeld:=hHeld0
      clear hHeld0
      replace hp:=hp.kept qv2
      try simp only [Act.put,nrm]
      refine wpAnyH_ready (rs:=[15,19]) (by kernel_rfl) (by simp) ?_
      refine AllReadyH.cons rfl (fun K hK=>?_) ?_
      ·go_simp
       refine (H3.out _).mono ?_
       rintro e v3 ⟨rfl,qv3⟩
       try go_wp2_with fail
       refine hK.out _ _ ⟨hHeld.1.trans qv3,kept_cell hHeld.2.1 qv3,kept_cell hHeld.2.2.1 qv3,kept_cell hHeld.2.2.2.1 qv3,kept_cell hHeld.2.2.2.2 qv3⟩ (fun hHeld0=>?_)
       clear hK K hHeld
       have hHeld:=hHeld0
       clear hHeld0
       replace hp:=hp.kept qv3
       try simp only [Act.put,nrm]
       refine wpAnyH_ready (rs:=[19,24]) (by kernel_rfl) (by simp) ?_
       refine AllReadyH.cons rfl (fun K hK=>?_) ?_
       ·go_simp
        refine hK.out _ _ ⟨hHeld.1.alloc _ _,kept_cell hHeld.2.1 ((Q.refl _).alloc _ _),kept_cell hHeld.2.2.1 ((Q.refl _).alloc _ _),kept_cell hHeld.2.2.2.1 ((Q.refl _).alloc _ _),kept_cell hHeld.2.2.2.2 ((Q.refl _).alloc _ _)⟩ (fun hHeld0=>?_)
        clear hK K
        have hnb:=fun k hk=>(hp.own.lt k hk).2
        replace hp:=hp.kept ((Q.refl _).alloc #[.int .u8 (kd:Int)] 5)
        try simp only [Act.put,nrm]
        refine wpAnyH_narrow (S':=fun w'=>(Q w w'∧w'.cell? ⟨wr.heap.size,0,none⟩=some (.string r.key)∧w'.cell? ⟨wr.heap.size,1,none⟩=some (.int .i64 (st:Int))∧w'.cell? ⟨wr.heap.size,2,none⟩=some (.int .i64 (kd:Int))∧w'.cell? ⟨wr.heap.size,3,none⟩=some (.string r.body))∧w'.cell? ⟨v3.heap.size,0,none⟩=some (.int .u8 (kd:Int))) (fun _ h=>h.1) ?_
        have hHeld:(fun w'=>(Q w w'∧w'.cell? ⟨wr.heap.size,0,none⟩=some (.string r.key)∧w'.cell? ⟨wr.heap.size,1,none⟩=some (.int .i64 (st:Int))∧w'.cell? ⟨wr.heap.size,2,none⟩=some (.int .i64 (kd:Int))∧w'.cell? ⟨wr.heap.size,3,none⟩=some (.string r.body))∧w'.cell? ⟨v3.heap.size,0,none⟩=some (.int .u8 (kd:Int))) _:=⟨hHeld0,by simp⟩
        clear hHeld0
        generalize World.alloc v3 (.cells #[.int .u8 (kd:Int)] 5)=b4 at *
        refine tk3 (i:=20) (v:=?_) rfl (Or.inl ⟨by kernel_rfl,?_⟩) hHeld ?_
        rotate_left
        ·(intro w hSw;(try dsimp only at hSw);go_simp;try with_reducible rfl)
        try simp only [Act.put,nrm]
        refine wpAnyH_ready (rs:=[24]) (by kernel_rfl) (by simp) ?_
        refine AllReadyH.cons rfl (fun K hK=>?_) ?_
        ·go_simp
         refine (H4.out _).mono ?_
         rintro e v5 ⟨rfl,qv5⟩
         try go_wp2_with fail
         refine hK.out _ _ ⟨⟨hHeld.1.1.trans qv5,kept_cell hHeld.1.2.1 qv5,kept_cell hHeld.1.2.2.1 qv5,kept_cell hHeld.1.2.2.2.1 qv5,kept_cell hHeld.1.2.2.2.2 qv5⟩,kept_cell hHeld.2 qv5⟩ (fun hHeld0=>?_)
         clear hK K hHeld
         have hHeld:=hHeld0
         clear hHeld0
         replace hp:=hp.kept qv5
         try simp only [Act.put,nrm]
         have hH:=hHeld.1
         refine wpAnyH_ready (rs:=[27]) (by kernel_rfl) (by simp) ?_
         refine AllReadyH.cons rfl (fun K hK=>?_) AllReadyH.nil
         go_simp
         refine hK.out _ _ ⟨⟨hH.1.alloc _ _,kept_cell hH.2.1 ((Q.refl _).alloc _ _),kept_cell hH.2.2.1 ((Q.refl _).alloc _ _),kept_cell hH.2.2.2.1 ((Q.refl _).alloc _ _),kept_cell hH.2.2.2.2 ((Q.refl _).alloc _ _)⟩,kept_cell hHeld.2 ((Q.refl _).alloc _ _)⟩ (fun hHeld0=>?_)
         clear hK K
         replace hp:=hp.kept ((Q.refl _).alloc #[.string a1,.string a2,.string (r.key.extract n r.key.size),.string a3,.string ⟨#[UInt8.ofNat kd]⟩,.string a4,.string r.body] 9)
         try simp only [Act.put,nrm]
         have hown:=hp.own
         refine wpAnyH_ready (rs:=[28]) (by kernel_rfl) (by simp) ?_
         refine AllReadyH.cons rfl (fun K hK=>?_) AllReadyH.nil
         refine step_append_own rfl (.tmp 24) (.tmp 51) 63 rfl w.heap.size 9 i0 (.string ⟨#[]⟩) 1 16 Tryz.underlying63 hi hz0 hz1 hz2 rfl (by decide) _ _ _ rfl hown ⟨v5.heap.size,0,none⟩ 7 7 [.string a1,.string a2,.string (r.key.extract n r.key.size),.string a3,.string ⟨#[UInt8.ofNat kd]⟩,.string a4,.string r.body] rfl rfl (seven_cells _ _ _ _ _ _ _ _ _) (hseven) (by unfold maxLen;omega) (by omega) (by have:=hp.below.size;simp at this ⊢;omega) ?_
         intro v' w' hown' hgrow
         obtain ⟨ap3,cp3,hv⟩:=own_form hown'
         rw [hv] at hown' ⊢
         have hp2:=hp.more [a1,a2,r.key.extract n r.key.size,a3,⟨#[UInt8.ofNat kd]⟩,a4,r.body] hgrow hown'
         refine hK.out _ _ ⟨⟨⟨hp2.below⟩,cell_grown hgrow hHeld0.1.2.1 (fun e=>Nat.lt_irrefl _ (hne _ e)),cell_grown hgrow hHeld0.1.2.2.1 (fun e=>Nat.lt_irrefl _ (hne _ e)),cell_grown hgrow hHeld0.1.2.2.2.1 (fun e=>Nat.lt_irrefl _ (hne _ e)),cell_grown hgrow hHeld0.1.2.2.2.2 (fun e=>Nat.lt_irrefl _ (hne _ e))⟩,cell_grown hgrow hHeld0.2 (fun e=>Nat.lt_irrefl _ (hnb _ e))⟩ (fun hHeld1=>?_)
         clear hK K hown hown' hv
         try simp only [Act.put,nrm]
         refine tk3 (i:=29) (v:=?_) rfl (Or.inl ⟨by kernel_rfl,?_⟩) hHeld1 ?_
         rotate_left
         ·(intro w hSw;(try dsimp only at hSw);go_simp;try with_reducible rfl)
         try simp only [Act.put,nrm]
         refine wpAnyH_done (by kernel_rfl) ?_ _
         clear hgrow hp hHeld0 hHeld1 hHeld hH hnb
         go_wp2_with fail
         go_roundw
         case rel=>exact ⟨k+1,P++[a1,a2,r.key.extract n r.key.size,a3,⟨#[UInt8.ofNat kd]⟩,a4,r.body],ap3,cp3,by omega,by go_num,by simp,HTx.out,by have:=HPl.out;simp;omega,hp2⟩
         case measure=>simp [intOf];omega
        exact AllReadyH.nil
       refine AllReadyH.cons rfl (fun K hK=>?_) ?_
       ·go_simp
        refine (H4.out _).mono ?_
        rintro e v6 ⟨rfl,qv6⟩
        try go_wp2_with fail
        refine hK.out _ _ ⟨hHeld.1.trans qv6,kept_cell hHeld.2.1 qv6,kept_cell hHeld.2.2.1 qv6,kept_cell hHeld.2.2.2.1 qv6,kept_cell hHeld.2.2.2.2 qv6⟩ (fun hHeld0=>?_)
        clear hK K hHeld
        have hHeld:=hHeld0
        clear hHeld0
        replace hp:=hp.kept qv6
        try simp only [Act.put,nrm]
        refine wpAnyH_ready (rs:=[19]) (by kernel_rfl) (by simp) ?_
        refine AllReadyH.cons rfl (fun K hK=>?_) ?_
        ·go_simp
         refine hK.out _ _ ⟨hHeld.1.alloc _ _,kept_cell hHeld.2.1 ((Q.refl _).alloc _ _),kept_cell hHeld.2.2.1 ((Q.refl _).alloc _ _),kept_cell hHeld.2.2.2.1 ((Q.refl _).alloc _ _),kept_cell hHeld.2.2.2.2 ((Q.refl _).alloc _ _)⟩ (fun hHeld0=>?_)
         clear hK K
         have hnb:=fun k hk=>(hp.own.lt k hk).2
         replace hp:=hp.kept ((Q.refl _).alloc #[.int .u8 (kd:Int)] 5)
         try simp only [Act.put,nrm]
         refine wpAnyH_narrow (S':=fun w'=>(Q w w'∧w'.cell? ⟨wr.heap.size,0,none⟩=some (.string r.key)∧w'.cell? ⟨wr.heap.size,1,none⟩=some (.int .i64 (st:Int))∧w'.cell? ⟨wr.heap.size,2,none⟩=some (.int .i64 (kd:Int))∧w'.cell? ⟨wr.heap.size,3,none⟩=some (.string r.body))∧w'.cell? ⟨v6.heap.size,0,none⟩=some (.int .u8 (kd:Int))) (fun _ h=>h.1) ?_
         have hHeld:(fun w'=>(Q w w'∧w'.cell? ⟨wr.heap.size,0,none⟩=some (.string r.key)∧w'.cell? ⟨wr.heap.size,1,none⟩=some (.int .i64 (st:Int))∧w'.cell? ⟨wr.heap.size,2,none⟩=some (.int .i64 (kd:Int))∧w'.cell? ⟨wr.heap.size,3,none⟩=some (.string r.body))∧w'.cell? ⟨v6.heap.size,0,none⟩=some (.int .u8 (kd:Int))) _:=⟨hHeld0,by simp⟩
         clear hHeld0
         generalize World.alloc v6 (.cells #[.int .u8 (kd:Int)] 5)=b7 at *
         refine tk3 (i:=20) (v:=?_) rfl (Or.inl ⟨by kernel_rfl,?_⟩) hHeld ?_
         rotate_left
         ·(intro w hSw;(try dsimp only at hSw);go_simp;try with_reducible rfl)
         try simp only [Act.put,nrm]
         have hH:=hHeld.1
         refine wpAnyH_ready (rs:=[27]) (by kernel_rfl) (by simp) ?_
         refine AllReadyH.cons rfl (fun K hK=>?_) AllReadyH.nil
         go_simp
         refine hK.out _ _ ⟨⟨hH.1.alloc _ _,kept_cell hH.2.1 ((Q.refl _).alloc _ _),kept_cell hH.2.2.1 ((Q.refl _).alloc _ _),kept_cell hH.2.2.2.1 ((Q.refl _).alloc _ _),kept_cell hH.2.2.2.2 ((Q.refl _).alloc _ _)⟩,kept_cell hHeld.2 ((Q.refl _).alloc _ _)⟩ (fun hHeld0=>?_)
         clear hK K
         replace hp:=hp.kept ((Q.refl _).alloc #[.string a1,.string a2,.string (r.key.extract n r.key.size),.string a3,.string ⟨#[UInt8.ofNat kd]⟩,.string a4,.string r.body] 9)
         try simp only [Act.put,nrm]
         have hown:=hp.own
         refine wpAnyH_ready (rs:=[28]) (by kernel_rfl) (by simp) ?_
         refine AllReadyH.cons rfl (fun K hK=>?_) AllReadyH.nil
         refine step_append_own rfl (.tmp 24) (.tmp 51) 63 rfl w.heap.size 9 i0 (.string ⟨#[]⟩) 1 16 Tryz.underlying63 hi hz0 hz1 hz2 rfl (by decide) _ _ _ rfl hown ⟨b7.heap.size,0,none⟩ 7 7 [.string a1,.string a2,.string (r.key.extract n r.key.size),.string a3,.string ⟨#[UInt8.ofNat kd]⟩,.string a4,.string r.body] rfl rfl (seven_cells _ _ _ _ _ _ _ _ _) (hseven) (by unfold maxLen;omega) (by omega) (by have:=hp.below.size;simp at this ⊢;omega) ?_
         intro v' w' hown' hgrow
         obtain ⟨ap3,cp3,hv⟩:=own_form hown'
         rw [hv] at hown' ⊢
         have hp2:=hp.more [a1,a2,r.key.extract n r.key.size,a3,⟨#[UInt8.ofNat kd]⟩,a4,r.body] hgrow hown'
         refine hK.out _ _ ⟨⟨⟨hp2.below⟩,cell_grown hgrow hHeld0.1.2.1 (fun e=>Nat.lt_irrefl _ (hne _ e)),cell_grown hgrow hHeld0.1.2.2.1 (fun e=>Nat.lt_irrefl _ (hne _ e)),cell_grown hgrow hHeld0.1.2.2.2.1 (fun e=>Nat.lt_irrefl _ (hne _ e)),cell_grown hgrow hHeld0.1.2.2.2.2 (fun e=>Nat.lt_irrefl _ (hne _ e))⟩,cell_grown hgrow hHeld0.2 (fun e=>Nat.lt_irrefl _ (hnb _ e))⟩ (fun hHeld1=>?_)
         clear hK K hown hown' hv
         try simp only [Act.put,nrm]
         refine tk3 (i:=29) (v:=?_) rfl (Or.inl ⟨by kernel_rfl,?_⟩) hHeld1 ?_
         rotate_left
         ·(intro w hSw;(try dsimp only at hSw);go_simp;try with_reducible rfl)
         try simp only [Act.put,nrm]
         refine wpAnyH_done (by kernel_rfl) ?_ _
         clear hgrow hp hHeld0 hHeld1 hHeld hH hnb
         go_wp2_with fail
         go_roundw
         case rel=>exact ⟨k+1,P++[a1,a2,r.key.extract n r.key.size,a3,⟨#[UInt8.ofNat kd]⟩,a4,r.body],ap3,cp3,by omega,by go_num,by simp,HTx.out,by have:=HPl.out;simp;omega,hp2⟩
         case measure=>simp [intOf];omega
        exact AllReadyH.nil
       exact AllReadyH.nil
      refine AllReadyH.cons rfl (fun K hK=>?_) ?_
      ·go_simp
       refine hK.out _ _ ⟨hHeld.1.alloc _ _,kept_cell hHeld.2.1 ((Q.refl _).alloc _ _),kept_cell hHeld.2.2.1 ((Q.refl _).alloc _ _),kept_cell hHeld.2.2.2.1 ((Q.refl _).alloc _ _),kept_cell hHeld.2.2.2.2 ((Q.refl _).alloc _ _)⟩ (fun hHeld0=>?_)
       clear hK K
       have hnb:=fun k hk=>(hp.own.lt k hk).2
       replace hp:=hp.kept ((Q.refl _).alloc #[.int .u8 (kd:Int)] 5)
       try simp only [Act.put,nrm]
       refine wpAnyH_narrow (S':=fun w'=>(Q w w'∧w'.cell? ⟨wr.heap.size,0,none⟩=some (.string r.key)∧w'.cell? ⟨wr.heap.size,1,none⟩=some (.int .i64 (st:Int))∧w'.cell? ⟨wr.heap.size,2,none⟩=some (.int .i64 (kd:Int))∧w'.cell? ⟨wr.heap.size,3,none⟩=some (.string r.body))∧w'.cell? ⟨v2.heap.size,0,none⟩=some (.int .u8 (kd:Int))) (fun _ h=>h.1) ?_
       have hHeld:(fun w'=>(Q w w'∧w'.cell? ⟨wr.heap.size,0,none⟩=some (.string r.key)∧w'.cell? ⟨wr.heap.size,1,none⟩=some (.int .i64 (st:Int))∧w'.cell? ⟨wr.heap.size,2,none⟩=some (.int .i64 (kd:Int))∧w'.cell? ⟨wr.heap.size,3,none⟩=some (.string r.body))∧w'.cell? ⟨v2.heap.size,0,none⟩=some (.int .u8 (kd:Int))) _:=⟨hHeld0,by simp⟩
       clear hHeld0
       generalize World.alloc v2 (.cells #[.int .u8 (kd:Int)] 5)=b8 at *
       refine tk3 (i:=20) (v:=?_) rfl (Or.inl ⟨by kernel_rfl,?_⟩) hHeld ?_
       rotate_left
       ·(intro w hSw;(try dsimp only at hSw);go_simp;try with_reducible rfl)
       try simp only [Act.put,nrm]
       refine wpAnyH_ready (rs:=[15]) (by kernel_rfl) (by simp) ?_
       refine AllReadyH.cons rfl (fun K hK=>?_) ?_
       ·go_simp
        refine (H3.out _).mono ?_
        rintro e v9 ⟨rfl,qv9⟩
        try go_wp2_with fail
        refine hK.out _ _ ⟨⟨hHeld.1.1.trans qv9,kept_cell hHeld.1.2.1 qv9,kept_cell hHeld.1.2.2.1 qv9,kept_cell hHeld.1.2.2.2.1 qv9,kept_cell hHeld.1.2.2.2.2 qv9⟩,kept_cell hHeld.2 qv9⟩ (fun hHeld0=>?_)
        clear hK K hHeld
        have hHeld:=hHeld0
        clear hHeld0
        replace hp:=hp.kept qv9
        try simp only [Act.put,nrm]
        refine wpAnyH_ready (rs:=[24]) (by kernel_rfl) (by simp) ?_
        refine AllReadyH.cons rfl (fun K hK=>?_) ?_
        ·go_simp
         refine (H4.out _).mono ?_
         rintro e v10 ⟨rfl,qv10⟩
         try go_wp2_with fail
         refine hK.out _ _ ⟨⟨hHeld.1.1.trans qv10,kept_cell hHeld.1.2.1 qv10,kept_cell hHeld.1.2.2.1 qv10,kept_cell hHeld.1.2.2.2.1 qv10,kept_cell hHeld.1.2.2.2.2 qv10⟩,kept_cell hHeld.2 qv10⟩ (fun hHeld0=>?_)
         clear hK K hHeld
         have hHeld:=hHeld0
         clear hHeld0
         replace hp:=hp.kept qv10
         try simp only [Act.put,nrm]
         have hH:=hHeld.1
         refine wpAnyH_ready (rs:=[27]) (by kernel_rfl) (by simp) ?_
         refine AllReadyH.cons rfl (fun K hK=>?_) AllReadyH.nil
         go_simp
         refine hK.out _ _ ⟨⟨hH.1.alloc _ _,kept_cell hH.2.1 ((Q.refl _).alloc _ _),kept_cell hH.2.2.1 ((Q.refl _).alloc _ _),kept_cell hH.2.2.2.1 ((Q.refl _).alloc _ _),kept_cell hH.2.2.2.2 ((Q.refl _).alloc _ _)⟩,kept_cell hHeld.2 ((Q.refl _).alloc _ _)⟩ (fun hHeld0=>?_)
         clear hK K
         replace hp:=hp.kept ((Q.refl _).alloc #[.string a1,.string a2,.string (r.key.extract n r.key.size),.string a3,.string ⟨#[UInt8.ofNat kd]⟩,.string a4,.string r.body] 9)
         try simp only [Act.put,nrm]
         have hown:=hp.own
         refine wpAnyH_ready (rs:=[28]) (by kernel_rfl) (by simp) ?_
         refine AllReadyH.cons rfl (fun K hK=>?_) AllReadyH.nil
         refine step_append_own rfl (.tmp 24) (.tmp 51) 63 rfl w.heap.size 9 i0 (.string ⟨#[]⟩) 1 16 Tryz.underlying63 hi hz0 hz1 hz2 rfl (by decide) _ _ _ rfl hown ⟨v10.heap.size,0,none⟩ 7 7 [.string a1,.string a2,.string (r.key.extract n r.key.size),.string a3,.string ⟨#[UInt8.ofNat kd]⟩,.string a4,.string r.body] rfl rfl (seven_cells _ _ _ _ _ _ _ _ _) (hseven) (by unfold maxLen;omega) (by omega) (by have:=hp.below.size;simp at this ⊢;omega) ?_
         intro v' w' hown' hgrow
         obtain ⟨ap3,cp3,hv⟩:=own_form hown'
         rw [hv] at hown' ⊢
         have hp2:=hp.more [a1,a2,r.key.extract n r.key.size,a3,⟨#[UInt8.ofNat kd]⟩,a4,r.body] hgrow hown'
         refine hK.out _ _ ⟨⟨⟨hp2.below⟩,cell_grown hgrow hHeld0.1.2.1 (fun e=>Nat.lt_irrefl _ (hne _ e)),cell_grown hgrow hHeld0.1.2.2.1 (fun e=>Nat.lt_irrefl _ (hne _ e)),cell_grown hgrow hHeld0.1.2.2.2.1 (fun e=>Nat.lt_irrefl _ (hne _ e)),cell_grown hgrow hHeld0.1.2.2.2.2 (fun e=>Nat.lt_irrefl _ (hne _ e))⟩,cell_grown hgrow hHeld0.2 (fun e=>Nat.lt_irrefl _ (hnb _ e))⟩ (fun hHeld1=>?_)
         clear hK K hown hown' hv
         try simp only [Act.put,nrm]
         refine tk3 (i:=29) (v:=?_) rfl (Or.inl ⟨by kernel_rfl,?_⟩) hHeld1 ?_
         rotate_left
         ·(intro w hSw;(try dsimp only at hSw);go_simp;try with_reducible rfl)
         try simp only [Act.put,nrm]
         refine wpAnyH_done (by kernel_rfl) ?_ _
         clear hgrow hp hHeld0 hHeld1 hHeld hH hnb
         go_wp2_with fail
         go_roundw
         case rel=>exact ⟨k+1,P++[a1,a2,r.key.extract n r.key.size,a3,⟨#[UInt8.ofNat kd]⟩,a4,r.body],ap3,cp3,by omega,by go_num,by simp,HTx.out,by have:=HPl.out;simp;omega,hp2⟩
         case measure=>simp [intOf];omega
        exact AllReadyH.nil
       exact AllReadyH.nil
      exact AllReadyH.nil
     refine AllReadyH.cons rfl (fun K hK=>?_) ?_
     ·go_simp
      refine hK.out _ _ ⟨hHeld.1.alloc _ _,kept_cell hHeld.2.1 ((Q.refl _).alloc _ _),kept_cell hHeld.2.2.1 ((Q.refl _).alloc _ _),kept_cell hHeld.2.2.2.1 ((Q.refl _).alloc _ _),kept_cell hHeld.2.2.2.2 ((Q.refl _).alloc _ _)⟩ (fun hHeld0=>?_)
      clear hK K
      have hnb:=fun k hk=>(hp.own.lt k hk).2
      replace hp:=hp.kept ((Q.refl _).alloc #[.int .u8 (kd:Int)] 5)
      try simp only [Act.put,nrm]
      refine wpAnyH_narrow (S':=fun w'=>(Q w w'∧w'.cell? ⟨wr.heap.size,0,none⟩=some (.string r.key)∧w'.cell? ⟨wr.heap.size,1,none⟩=some (.int .i64 (st:Int))∧w'.cell? ⟨wr.heap.size,2,none⟩=some (.int .i64 (kd:Int))∧w'.cell? ⟨wr.heap.size,3,none⟩=some (.string r.body))∧w'.cell? ⟨v1.heap.size,0,none⟩=some (.int .u8 (kd:Int))) (fun _ h=>h.1) ?_
      have hHeld:(fun w'=>(Q w w'∧w'.cell? ⟨wr.heap.size,0,none⟩=some (.string r.key)∧w'.cell? ⟨wr.heap.size,1,none⟩=some (.int .i64 (st:Int))∧w'.cell? ⟨wr.heap.size,2,none⟩=some (.int .i64 (kd:Int))∧w'.cell? ⟨wr.heap.size,3,none⟩=some (.string r.body))∧w'.cell? ⟨v1.heap.size,0,none⟩=some (.int .u8 (kd:Int))) _:=⟨hHeld0,by simp⟩
      clear hHeld0
      generalize World.alloc v1 (.cells #[.int .u8 (kd:Int)] 5)=b11 at *
      refine tk3 (i:=20) (v:=?_) rfl (Or.inl ⟨by kernel_rfl,?_⟩) hHeld ?_
      rotate_left
      ·(intro w hSw;(try dsimp only at hSw);go_simp;try with_reducible rfl)
      try simp only [Act.put,nrm]
      refine wpAnyH_ready (rs:=[8]) (by kernel_rfl) (by simp) ?_
      refine AllReadyH.cons rfl (fun K hK=>?_) ?_
      ·go_simp
       refine (H2.out _).mono ?_
       rintro e v12 ⟨rfl,qv12⟩
       try go_wp2_with fail
       refine hK.out _ _ ⟨⟨hHeld.1.1.trans qv12,kept_cell hHeld.1.2.1 qv12,kept_cell hHeld.1.2.2.1 qv12,kept_cell hHeld.1.2.2.2.1 qv12,kept_cell hHeld.1.2.2.2.2 qv12⟩,kept_cell hHeld.2 qv12⟩ (fun hHeld0=>?_)
       clear hK K hHeld
       have hHeld:=hHeld0
       clear hHeld0
       replace hp:=hp.kept qv12
       try simp only [Act.put,nrm]
       refine wpAnyH_ready (rs:=[15]) (by kernel_rfl) (by simp) ?_
       refine AllReadyH.cons rfl (fun K hK=>?_) ?_
       ·go_simp
        refine (H3.out _).mono ?_
        rintro e v13 ⟨rfl,qv13⟩
        try go_wp2_with fail
        refine hK.out _ _ ⟨⟨hHeld.1.1.trans qv13,kept_cell hHeld.1.2.1 qv13,kept_cell hHeld.1.2.2.1 qv13,kept_cell hHeld.1.2.2.2.1 qv13,kept_cell hHeld.1.2.2.2.2 qv13⟩,kept_cell hHeld.2 qv13⟩ (fun hHeld0=>?_)
        clear hK K hHeld
        have hHeld:=hHeld0
        clear hHeld0
        replace hp:=hp.kept qv13
        try simp only [Act.put,nrm]
        refine wpAnyH_ready (rs:=[24]) (by kernel_rfl) (by simp) ?_
        refine AllReadyH.cons rfl (fun K hK=>?_) ?_
        ·go_simp
         refine (H4.out _).mono ?_
         rintro e v14 ⟨rfl,qv14⟩
         try go_wp2_with fail
         refine hK.out _ _ ⟨⟨hHeld.1.1.trans qv14,kept_cell hHeld.1.2.1 qv14,kept_cell hHeld.1.2.2.1 qv14,kept_cell hHeld.1.2.2.2.1 qv14,kept_cell hHeld.1.2.2.2.2 qv14⟩,kept_cell hHeld.2 qv14⟩ (fun hHeld0=>?_)
         clear hK K hHeld
         have hHeld:=hHeld0
         clear hHeld0
         replace hp:=hp.kept qv14
         try simp only [Act.put,nrm]
         have hH:=hHeld.1
         refine wpAnyH_ready (rs:=[27]) (by kernel_rfl) (by simp) ?_
         refine AllReadyH.cons rfl (fun K hK=>?_) AllReadyH.nil
         go_simp
         refine hK.out _ _ ⟨⟨hH.1.alloc _ _,kept_cell hH.2.1 ((Q.refl _).alloc _ _),kept_cell hH.2.2.1 ((Q.refl _).alloc _ _),kept_cell hH.2.2.2.1 ((Q.refl _).alloc _ _),kept_cell hH.2.2.2.2 ((Q.refl _).alloc _ _)⟩,kept_cell hHeld.2 ((Q.refl _).alloc _ _)⟩ (fun hHeld0=>?_)
         clear hK K
         replace hp:=hp.kept ((Q.refl _).alloc #[.string a1,.string a2,.string (r.key.extract n r.key.size),.string a3,.string ⟨#[UInt8.ofNat kd]⟩,.string a4,.string r.body] 9)
         try simp only [Act.put,nrm]
         have hown:=hp.own
         refine wpAnyH_ready (rs:=[28]) (by kernel_rfl) (by simp) ?_
         refine AllReadyH.cons rfl (fun K hK=>?_) AllReadyH.nil
         refine step_append_own rfl (.tmp 24) (.tmp 51) 63 rfl w.heap.size 9 i0 (.string ⟨#[]⟩) 1 16 Tryz.underlying63 hi hz0 hz1 hz2 rfl (by decide) _ _ _ rfl hown ⟨v14.heap.size,0,none⟩ 7 7 [.string a1,.string a2,.string (r.key.extract n r.key.size),.string a3,.string ⟨#[UInt8.ofNat kd]⟩,.string a4,.string r.body] rfl rfl (seven_cells _ _ _ _ _ _ _ _ _) (hseven) (by unfold maxLen;omega) (by omega) (by have:=hp.below.size;simp at this ⊢;omega) ?_
         intro v' w' hown' hgrow
         obtain ⟨ap3,cp3,hv⟩:=own_form hown'
         rw [hv] at hown' ⊢
         have hp2:=hp.more [a1,a2,r.key.extract n r.key.size,a3,⟨#[UInt8.ofNat kd]⟩,a4,r.body] hgrow hown'
         refine hK.out _ _ ⟨⟨⟨hp2.below⟩,cell_grown hgrow hHeld0.1.2.1 (fun e=>Nat.lt_irrefl _ (hne _ e)),cell_grown hgrow hHeld0.1.2.2.1 (fun e=>Nat.lt_irrefl _ (hne _ e)),cell_grown hgrow hHeld0.1.2.2.2.1 (fun e=>Nat.lt_irrefl _ (hne _ e)),cell_grown hgrow hHeld0.1.2.2.2.2 (fun e=>Nat.lt_irrefl _ (hne _ e))⟩,cell_grown hgrow hHeld0.2 (fun e=>Nat.lt_irrefl _ (hnb _ e))⟩ (fun hHeld1=>?_)
         clear hK K hown hown' hv
         try simp only [Act.put,nrm]
         refine tk3 (i:=29) (v:=?_) rfl (Or.inl ⟨by kernel_rfl,?_⟩) hHeld1 ?_
         rotate_left
         ·(intro w hSw;(try dsimp only at hSw);go_simp;try with_reducible rfl)
         try simp only [Act.put,nrm]
         refine wpAnyH_done (by kernel_rfl) ?_ _
         clear hgrow hp hHeld0 hHeld1 hHeld hH hnb
         go_wp2_with fail
         go_roundw
         case rel=>exact ⟨k+1,P++[a1,a2,r.key.extract n r.key.size,a3,⟨#[UInt8.ofNat kd]⟩,a4,r.body],ap3,cp3,by omega,by go_num,by simp,HTx.out,by have:=HPl.out;simp;omega,hp2⟩
         case measure=>simp [intOf];omega
        exact AllReadyH.nil
       exact AllReadyH.nil
      exact AllReadyH.nil
     exact AllReadyH.nil
    refine AllReadyH.cons rfl (fun K hK=>?_) ?_
    ·go_simp
     refine hK.out _ _ ⟨hHeld.1.alloc _ _,kept_cell hHeld.2.1 ((Q.refl _).alloc _ _),kept_cell hHeld.2.2.1 ((Q.refl _).alloc _ _),kept_cell hHeld.2.2.2.1 ((Q.refl _).alloc _ _),kept_cell hHeld.2.2.2.2 ((Q.refl _).alloc _ _)⟩ (fun hHeld0=>?_)
     clear hK K
     have hnb:=fun k hk=>(hp.own.lt k hk).2
     replace hp:=hp.kept ((Q.refl _).alloc #[.int .u8 (kd:Int)] 5)
     try simp only [Act.put,nrm]
     refine wpAnyH_narrow (S':=fun w'=>(Q w w'∧w'.cell? ⟨wr.heap.size,0,none⟩=some (.string r.key)∧w'.cell? ⟨wr.heap.size,1,none⟩=some (.int .i64 (st:Int))∧w'.cell? ⟨wr.heap.size,2,none⟩=some (.int .i64 (kd:Int))∧w'.cell? ⟨wr.heap.size,3,none⟩=some (.string r.body))∧w'.cell? ⟨wc.heap.size,0,none⟩=some (.int .u8 (kd:Int))) (fun _ h=>h.1) ?_
     have hHeld:(fun w'=>(Q w w'∧w'.cell? ⟨wr.heap.size,0,none⟩=some (.string r.key)∧w'.cell? ⟨wr.heap.size,1,none⟩=some (.int .i64 (st:Int))∧w'.cell? ⟨wr.heap.size,2,none⟩=some (.int .i64 (kd:Int))∧w'.cell? ⟨wr.heap.size,3,none⟩=some (.string r.body))∧w'.cell? ⟨wc.heap.size,0,none⟩=some (.int .u8 (kd:Int))) _:=⟨hHeld0,by simp⟩
     clear hHeld0
     refine tk3 (i:=20) (v:=?_) rfl (Or.inl ⟨by kernel_rfl,?_⟩) hHeld ?_
     rotate_left
     ·(intro w hSw;(try dsimp only at hSw);go_simp;try with_reducible rfl)
     try simp only [Act.put,nrm]
     refine wpAnyH_ready (rs:=[2]) (by kernel_rfl) (by simp) ?_
     refine AllReadyH.cons rfl (fun K hK=>?_) ?_
     ·go_simp
      refine (H1.out _).mono ?_
      rintro e v15 ⟨rfl,qv15⟩
      try go_wp2_with fail
      refine hK.out _ _ ⟨⟨hHeld.1.1.trans qv15,kept_cell hHeld.1.2.1 qv15,kept_cell hHeld.1.2.2.1 qv15,kept_cell hHeld.1.2.2.2.1 qv15,kept_cell hHeld.1.2.2.2.2 qv15⟩,kept_cell hHeld.2 qv15⟩ (fun hHeld0=>?_)
      clear hK K hHeld
      have hHeld:=hHeld0
      clear hHeld0
      replace hp:=hp.kept qv15
      try simp only [Act.put,nrm]
      refine wpAnyH_ready (rs:=[8]) (by kernel_rfl) (by simp) ?_
      refine AllReadyH.cons rfl (fun K hK=>?_) ?_
      ·go_simp
       refine (H2.out _).mono ?_
       rintro e v16 ⟨rfl,qv16⟩
       try go_wp2_with fail
       refine hK.out _ _ ⟨⟨hHeld.1.1.trans qv16,kept_cell hHeld.1.2.1 qv16,kept_cell hHeld.1.2.2.1 qv16,kept_cell hHeld.1.2.2.2.1 qv16,kept_cell hHeld.1.2.2.2.2 qv16⟩,kept_cell hHeld.2 qv16⟩ (fun hHeld0=>?_)
       clear hK K hHeld
       have hHeld:=hHeld0
       clear hHeld0
       replace hp:=hp.kept qv16
       try simp only [Act.put,nrm]
       refine wpAnyH_ready (rs:=[15]) (by kernel_rfl) (by simp) ?_
       refine AllReadyH.cons rfl (fun K hK=>?_) ?_
       ·go_simp
        refine (H3.out _).mono ?_
        rintro e v17 ⟨rfl,qv17⟩
        try go_wp2_with fail
        refine hK.out _ _ ⟨⟨hHeld.1.1.trans qv17,kept_cell hHeld.1.2.1 qv17,kept_cell hHeld.1.2.2.1 qv17,kept_cell hHeld.1.2.2.2.1 qv17,kept_cell hHeld.1.2.2.2.2 qv17⟩,kept_cell hHeld.2 qv17⟩ (fun hHeld0=>?_)
        clear hK K hHeld
        have hHeld:=hHeld0
        clear hHeld0
        replace hp:=hp.kept qv17
        try simp only [Act.put,nrm]
        refine wpAnyH_ready (rs:=[24]) (by kernel_rfl) (by simp) ?_
        refine AllReadyH.cons rfl (fun K hK=>?_) ?_
        ·go_simp
         refine (H4.out _).mono ?_
         rintro e v18 ⟨rfl,qv18⟩
         try go_wp2_with fail
         refine hK.out _ _ ⟨⟨hHeld.1.1.trans qv18,kept_cell hHeld.1.2.1 qv18,kept_cell hHeld.1.2.2.1 qv18,kept_cell hHeld.1.2.2.2.1 qv18,kept_cell hHeld.1.2.2.2.2 qv18⟩,kept_cell hHeld.2 qv18⟩ (fun hHeld0=>?_)
         clear hK K hHeld
         have hHeld:=hHeld0
         clear hHeld0
         replace hp:=hp.kept qv18
         try simp only [Act.put,nrm]
         have hH:=hHeld.1
         refine wpAnyH_ready (rs:=[27]) (by kernel_rfl) (by simp) ?_
         refine AllReadyH.cons rfl (fun K hK=>?_) AllReadyH.nil
         go_simp
         refine hK.out _ _ ⟨⟨hH.1.alloc _ _,kept_cell hH.2.1 ((Q.refl _).alloc _ _),kept_cell hH.2.2.1 ((Q.refl _).alloc _ _),kept_cell hH.2.2.2.1 ((Q.refl _).alloc _ _),kept_cell hH.2.2.2.2 ((Q.refl _).alloc _ _)⟩,kept_cell hHeld.2 ((Q.refl _).alloc _ _)⟩ (fun hHeld0=>?_)
         clear hK K
         replace hp:=hp.kept ((Q.refl _).alloc #[.string a1,.string a2,.string (r.key.extract n r.key.size),.string a3,.string ⟨#[UInt8.ofNat kd]⟩,.string a4,.string r.body] 9)
         try simp only [Act.put,nrm]
         have hown:=hp.own
         refine wpAnyH_ready (rs:=[28]) (by kernel_rfl) (by simp) ?_
         refine AllReadyH.cons rfl (fun K hK=>?_) AllReadyH.nil
         refine step_append_own rfl (.tmp 24) (.tmp 51) 63 rfl w.heap.size 9 i0 (.string ⟨#[]⟩) 1 16 Tryz.underlying63 hi hz0 hz1 hz2 rfl (by decide) _ _ _ rfl hown ⟨v18.heap.size,0,none⟩ 7 7 [.string a1,.string a2,.string (r.key.extract n r.key.size),.string a3,.string ⟨#[UInt8.ofNat kd]⟩,.string a4,.string r.body] rfl rfl (seven_cells _ _ _ _ _ _ _ _ _) (hseven) (by unfold maxLen;omega) (by omega) (by have:=hp.below.size;simp at this ⊢;omega) ?_
         intro v' w' hown' hgrow
         obtain ⟨ap3,cp3,hv⟩:=own_form hown'
         rw [hv] at hown' ⊢
         have hp2:=hp.more [a1,a2,r.key.extract n r.key.size,a3,⟨#[UInt8.ofNat kd]⟩,a4,r.body] hgrow hown'
         refine hK.out _ _ ⟨⟨⟨hp2.below⟩,cell_grown hgrow hHeld0.1.2.1 (fun e=>Nat.lt_irrefl _ (hne _ e)),cell_grown hgrow hHeld0.1.2.2.1 (fun e=>Nat.lt_irrefl _ (hne _ e)),cell_grown hgrow hHeld0.1.2.2.2.1 (fun e=>Nat.lt_irrefl _ (hne _ e)),cell_grown hgrow hHeld0.1.2.2.2.2 (fun e=>Nat.lt_irrefl _ (hne _ e))⟩,cell_grown hgrow hHeld0.2 (fun e=>Nat.lt_irrefl _ (hnb _ e))⟩ (fun hHeld1=>?_)
         clear hK K hown hown' hv
         try simp only [Act.put,nrm]
         refine tk3 (i:=29) (v:=?_) rfl (Or.inl ⟨by kernel_rfl,?_⟩) hHeld1 ?_
         rotate_left
         ·(intro w hSw;(try dsimp only at hSw);go_simp;try with_reducible rfl)
         try simp only [Act.put,nrm]
         refine wpAnyH_done (by kernel_rfl) ?_ _
         clear hgrow hp hHeld0 hHeld1 hHeld hH hnb
         go_wp2_with fail
         go_roundw
         case rel=>exact ⟨k+1,P++[a1,a2,r.key.extract n r.key.size,a3,⟨#[UInt8.ofNat kd]⟩,a4,r.body],ap3,cp3,by omega,by go_num,by simp,HTx.out,by have:=HPl.out;simp;omega,hp2⟩
         case measure=>simp [intOf];omega
        exact AllReadyH.nil
       exact AllReadyH.nil
      exact AllReadyH.nil
     exact AllReadyH.nil
    exact AllReadyH.nil
  ·obtain rfl:k=rs.length:=by omega
   have hE:M.cat P=t:=by have:=HT.out;rw [htx] at this;exact Option.some.inj this
   have JC:=join_any P ap cp wr (own_strs hp.own).2 (by rw [hE];omega) (by omega)
   rw [hE] at JC
   have HJ:Hid _:=fun (_:Unit)=>JC
   have HQ:Hid _:=fun (_:Unit)=>hp.below
   clear JC hp hE htx hp0
   go_wp2_with fail
   refine (HJ.out ()).mono ?_
   rintro e w2 ⟨rfl,q2⟩
   go_wp2_with fail
   go_ret
   exact ⟨rfl,(Q.mk (HQ.out ())).trans q2⟩
theorem setCells_row (g:Nat) (e:TypeId):∀ (vs:List Value) (o:Nat) (w:World) (cur:Array Value),w.heap[g]?=some (.cells cur e (0,0))→o+vs.length≤cur.size →
  ∃ cur',(w.setCells g o vs).heap[g]?=some (.cells cur' e (0,0))∧cur'.size=cur.size∧cur'.toList=cur.toList.take o++vs++cur.toList.drop (o+vs.length)
 | [],o,w,cur,h,_=>⟨cur,h,rfl,by simp⟩
 | v::vs,o,w,cur,h,hl=>by
  simp only [List.length_cons] at hl
  have h1:=heap_setCell_same w g o cur e v h
  obtain ⟨cur',h2,h3,h4⟩:=setCells_row g e vs (o+1) (w.setCell ⟨g,o,none⟩ v) _ h1 (by simp;omega)
  refine ⟨cur',h2,h3.trans (by simp),?_⟩
  rw [h4,Array.toList_setIfInBounds,List.drop_set_of_lt (by omega),show o+1+vs.length=o+(v::vs).length by simp;omega]
  have:(cur.toList.set o v).take (o+1)=cur.toList.take o++[v]:=by
   have hlen:(cur.toList.take o).length=o:=by simp;omega
   have hlt:o<cur.toList.length:=by rw [Array.length_toList];omega
   rw [List.set_eq_take_append_cons_drop,if_pos hlt,List.take_append,List.take_of_length_le (by omega),hlen,Nat.add_sub_cancel_left]
   simp
  rw [this]
  simp
theorem grown_setCells (w:World) (g o:Nat) (vs:List Value):w.grownBy (w.setCells g o vs) (some g):=by
 induction vs generalizing w o with
 | nil=>exact ⟨rfl,rfl,rfl,Nat.le_refl _,fun _ _ _=>rfl⟩
 | cons v vs ih =>
  have h1:w.grownBy (w.setCell ⟨g,o,none⟩ v) (some g):=⟨rfl,rfl,rfl,by simp,fun k _ hk=>heap_setCell_other w ⟨g,o,none⟩ k v (fun e=>hk (by simp at e;rw [e]))⟩
  exact h1.trans (ih _ _)
theorem drew_grown (w:World) (row:Option Nat):w.grownBy w.drew row:=⟨rfl,rfl,rfl,Nat.le_refl _,fun _ _ _=>rfl⟩
theorem grown_alloc (w:World) (ob:Obj) (row:Option Nat):w.grownBy (w.alloc ob) row:=⟨rfl,rfl,rfl,by simp,fun k hk _=>heap_alloc_old w ob hk⟩
theorem grown_new {a b c:World} {j:Nat} (h:a.grownBy b none) (k:b.grownBy c (some j)) (hj:a.heap.size≤j):a.grownBy c none:=
 ⟨k.os.trans h.os,k.tape.trans h.tape,k.output.trans h.output,Nat.le_trans h.size k.size,fun i hi hn=>(k.block i (Nat.lt_of_lt_of_le hi h.size) (fun e=>by simp at e;omega)).trans (h.block i hi hn)⟩
theorem grown_but {a c:World} (h:a.grownBy c none) (row:Option Nat):a.grownBy c row:=⟨h.os,h.tape,h.output,h.size,fun i hi _=>h.block i hi (by simp)⟩
end Go.Proofs.YtekdenkllipehabGreatDoor
