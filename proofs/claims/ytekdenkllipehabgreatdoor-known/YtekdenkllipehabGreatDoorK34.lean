import Derived.Test.YtekdenkllipehabGreatDoorK33
set_option maxRecDepth 100000
set_option maxHeartbeats 8000000
namespace Go.Proofs.YtekdenkllipehabGreatDoor
open Go.RowKit
def S.Up (rs:List Rec):Prop:=rs.Pairwise fun a b=>a.stamp<b.stamp
def stampsOf (rs:List Rec):List Int:=rs.map (·.stamp)
@[simp] theorem stampsOf_length (rs:List Rec):(stampsOf rs).length=rs.length:=by simp [stampsOf]
structure RMap (w:World) (tg:Tags) (o p u:Nat) (rs:List Rec):Prop where
 top:p<w.heap.size
 keys:∃ ao cap,w.cell? ⟨p,0,none⟩=some (.slice ao rs.length cap)∧w.ownsRow 0 3 1 (.slice ao rs.length cap) rs.length (intVals (stampsOf rs))∧∀ g,(Value.slice ao rs.length cap).ownBlock=some g→tg g=(o,u)
 vals:∃ ao cap,w.cell? ⟨p,1,none⟩=some (.slice ao rs.length cap)∧w.ownsRow 0 62 4 (.slice ao rs.length cap) rs.length (recCells rs)∧∀ g,(Value.slice ao rs.length cap).ownBlock=some g→tg g=(o,u+1)
theorem RMap.keep {w w':World} {tg tg':Tags} {o p u:Nat} {rs:List Rec} (h:RMap w tg o p u rs) (hs:w.heap.size≤w'.heap.size) (ht:∀ k,k<w.heap.size→tg k=(o,u)∨tg k=(o,u+1)→tg' k=tg k)
  (hp:w'.heap[p]?=w.heap[p]?) (hb:∀ k,k<w.heap.size→tg k=(o,u)∨tg k=(o,u+1)→w'.heap[k]?=w.heap[k]?):RMap w' tg' o p u rs:=by
 obtain ⟨a1,k1,r1,r2,r3⟩:=h.keys
 obtain ⟨a2,k2,s1,s2,s3⟩:=h.vals
 exact ⟨Nat.lt_of_lt_of_le h.top hs,
  ⟨a1,k1,(World.cell?_of_block (a:=⟨p,0,none⟩) hp).trans r1,row_keep r2 (fun g hg=>hb g (r2.lt g hg).2 (Or.inl (r3 g hg))),fun g hg=>(ht g (r2.lt g hg).2 (Or.inl (r3 g hg))).trans (r3 g hg)⟩,
  ⟨a2,k2,(World.cell?_of_block (a:=⟨p,1,none⟩) hp).trans s1,row_keep s2 (fun g hg=>hb g (s2.lt g hg).2 (Or.inr (s3 g hg))),fun g hg=>(ht g (s2.lt g hg).2 (Or.inr (s3 g hg))).trans (s3 g hg)⟩⟩
theorem RMap.kept {w w':World} {tg:Tags} {o p u:Nat} {rs:List Rec} (h:RMap w tg o p u rs) (q:Q w w'):RMap w' tg o p u rs:=
 h.keep q.below.size (fun _ _ _=>rfl) (q.below.block p h.top) (fun k hk _=>q.below.block k hk)
theorem RMap.empty {w:World} {tg:Tags} {o p u:Nat} (hd:p<w.heap.size) (h0:w.cell? ⟨p,0,none⟩=some (.slice none 0 0)) (h1:w.cell? ⟨p,1,none⟩=some (.slice none 0 0)):RMap w tg o p u []:=
 ⟨hd,⟨none,0,h0,World.ownsRow_nil _ _ _ _,fun g hg=>by simp [Value.ownBlock] at hg⟩,⟨none,0,h1,World.ownsRow_nil _ _ _ _,fun g hg=>by simp [Value.ownBlock] at hg⟩⟩
def lowS (rs:List Rec) (x:Int):Nat:=(stampsOf rs).countP (·<x)
def hasS (rs:List Rec) (x:Int):Bool:=(stampsOf rs).contains x
theorem bsearchI_nil (x:Int) (w:World) :
  Calls Tryz.prog 81 #[.slice none 0 0,.int .i64 x] w fun e w'=>e=.returned (.tuple #[.int .i64 0,.bool false])∧Q w w':=by
 go_enter Tryz.func81,Tryz.ntmps81
 go_wp2_with fail
 go_loopw [7,8] (fun a b wr=>a=.int .i64 0∧b=.int .i64 0∧wr=w) (fun _ _ _=>0)
 case atStart=>exact ⟨rfl,rfl,rfl⟩
 case round =>
  obtain ⟨rfl,rfl,rfl⟩:=hrel
  go_wp2_with fail
  go_ret2
  exact ⟨rfl,Q.refl _⟩
theorem bsearchI (rs:List Rec) (hs:S.Up rs) (hl:rs.length≤140737488351232) (x:Int) (ao:Option Addr) (cap:Nat) (w:World) (hr:w.ownsRow 0 3 1 (.slice ao rs.length cap) rs.length (intVals (stampsOf rs))) :
  Calls Tryz.prog 81 #[.slice ao rs.length cap,.int .i64 x] w fun e w'=>e=.returned (.tuple #[.int .i64 (lowS rs x:Nat),.bool (hasS rs x)])∧Q w w':=by
 rcases hr.2 with ⟨hv,h0⟩|⟨g,c,cur,hv,_,hh,_⟩
 ·have hf:rs=[]:=List.eq_nil_of_length_eq_zero h0
  subst hf
  injection hv with e1 e2 e3
  subst e1 e3
  exact bsearchI_nil x w
 ·injection hv with e1 e2 e3
  subst e1 e3
  have hC:=Any.slices_BinarySearch_int laysBi g 0 rs.length cap (stampsOf rs) x w (by simp) (by omega) (fun j hj=>by
   rw [Nat.zero_add,hr.cellAt j (by simp at hj;omega)]
   simp at hj
   simp [intVals,stampsOf,hj]) (by
   rw [List.take_of_length_le (by simp)]
   unfold stampsOf
   rw [List.pairwise_map]
   exact hs.imp (fun h=>by omega))
  rw [List.take_of_length_le (by simp)] at hC
  refine Calls.mono hC ?_
  rintro e w' ⟨rfl,q,rfl⟩
  exact ⟨rfl,Q.drewN (Q.refl w) q⟩
def lastLe (rs:List Rec) (x:Int):Option Rec:=(rs.filter fun r=>decide (r.stamp≤x)).getLast?
theorem up_split:∀ {rs:List Rec} (_:S.Up rs) (x:Int),rs.filter (fun r=>decide (r.stamp≤x))=rs.take (lowS rs (x+1))
 | [],_,x=>by simp
 | r::rs,h,x=>by
  have h':=List.pairwise_cons.1 h
  unfold lowS stampsOf
  rw [List.map_cons,List.countP_cons,List.filter_cons]
  by_cases hr:r.stamp≤x
  ·have hlt:r.stamp<x+1:=by omega
   simp only [hr,decide_true,if_true,hlt]
   rw [up_split h'.2 x]
   rfl
  ·have hlt:¬r.stamp<x+1:=by omega
   have hz:(List.map (fun x=>x.stamp) rs).countP (fun y=>decide (y<x+1))=0:=by
    rw [List.countP_eq_zero]
    intro y hy
    rw [List.mem_map] at hy
    obtain ⟨z,hz,rfl⟩:=hy
    have:=h'.1 z hz
    simp
    omega
   simp only [hr,decide_false,Bool.false_eq_true,if_false,hlt,hz]
   rw [List.filter_eq_nil_iff.2]
   ·rfl
   ·intro z hz
    have:=h'.1 z hz
    simp
    omega
theorem lowS_le (rs:List Rec) (x:Int):lowS rs x≤rs.length:=by
 have:=List.countP_le_length (p:=fun y=>decide (y<x)) (l:=stampsOf rs)
 simpa [lowS] using this
theorem lowS_succ {rs:List Rec} (h:S.Up rs) (x:Int):lowS rs (x+1)=lowS rs x+(if hasS rs x=true then 1 else 0):=by
 induction rs with
 | nil=>simp [lowS,hasS,stampsOf]
 | cons r rs ih =>
  have h':=List.pairwise_cons.1 h
  have ih':=ih h'.2
  unfold lowS hasS stampsOf at ih' ⊢
  simp only [List.map_cons,List.countP_cons,List.contains_cons]
  by_cases hx:x=r.stamp
  ·have hz:(rs.map (fun x=>x.stamp)).contains x=false:=by
    rw [Bool.eq_false_iff]
    intro hc
    rw [List.contains_iff_mem,List.mem_map] at hc
    obtain ⟨z,hz,he⟩:=hc
    have:=h'.1 z hz
    omega
   rw [hz] at ih'
   simp only [Bool.false_eq_true,if_false,Nat.add_zero] at ih'
   rw [ih']
   simp [hx]
   omega
  ·have hb:(x == r.stamp)=false:=by rw [beq_eq_false_iff_ne];exact hx
   rw [hb,Bool.false_or,ih']
   by_cases hlt:r.stamp<x
   ·have h2:r.stamp<x+1:=by omega
    simp only [hlt,h2,decide_true,if_true]
    omega
   ·have h2:¬r.stamp<x+1:=by omega
    simp only [hlt,h2,decide_false,Bool.false_eq_true,if_false,Nat.add_zero]
theorem lastLe_eq {rs:List Rec} (h:S.Up rs) (x:Int):lastLe rs x=if hasS rs x=true then rs[lowS rs x]? else if lowS rs x=0 then none else rs[lowS rs x-1]?:=by
 unfold lastLe
 rw [up_split h x,lowS_succ h x]
 have hle:=lowS_le rs (x+1)
 rw [lowS_succ h x] at hle
 cases hh:hasS rs x with
 | true =>
  rw [hh] at hle
  simp only [if_true] at hle ⊢
  rw [List.getLast?_eq_getElem?,List.length_take,Nat.min_eq_left hle,Nat.add_sub_cancel,List.getElem?_take_of_lt (by omega)]
 | false =>
  rw [hh] at hle
  simp only [Bool.false_eq_true,if_false,Nat.add_zero] at hle ⊢
  by_cases h0:lowS rs x=0
  ·rw [if_pos h0,h0];simp
  ·rw [if_neg h0,List.getLast?_eq_getElem?,List.length_take,Nat.min_eq_left hle,List.getElem?_take_of_lt (by omega)]
theorem RMap.at {w:World} {tg:Tags} {o p u:Nat} {rs:List Rec} (h:RMap w tg o p u rs) {i:Nat} {r:Rec} (hr:rs[i]?=some r) :
  ∃ g cap,w.cell? ⟨p,1,none⟩=some (.slice (some ⟨g,0,none⟩) rs.length cap)∧g<w.heap.size∧w.cell? ⟨g,i*4,none⟩=some (.string r.key)∧w.cell? ⟨g,i*4+1,none⟩=some (.int .i64 r.stamp)∧w.cell? ⟨g,i*4+2,none⟩=some (.int .i64 r.kind)∧w.cell? ⟨g,i*4+3,none⟩=some (.string r.body):=by
 obtain ⟨ao,cap,s1,s2,s3⟩:=h.vals
 have hne:rs≠[]:=fun e=>by rw [e] at hr;simp at hr
 obtain ⟨g,rfl,hg,hR⟩:=own_recs s2 hne
 have:=hR i r hr
 simp only [Nat.zero_add] at this
 exact ⟨g,cap,s1,hg,this⟩
def zeroRec:Rec:=⟨⟨#[]⟩,0,0,⟨#[]⟩⟩
theorem rAtMost (tg:Tags) (o p u:Nat) (rs:List Rec) (hs:S.Up rs) (hl:rs.length≤1048576) (x:Int) (w:World) (h:RMap w tg o p u rs) :
  Calls Tryz.prog 103 #[.pointer (some ⟨p,0,none⟩),.int .i64 x] w fun e w'=>e=.returned (.tuple #[((lastLe rs x).getD zeroRec).val,.bool (lastLe rs x).isSome])∧Q w w':=by
 have HM:Hid (RMap w tg o p u rs):=h
 obtain ⟨a1,k1,r1,r2,r3⟩:=h.keys
 have HB:Hid _:=fun W (q:Q w W)=>by
  exact bsearchI rs hs (by omega) x a1 k1 W (own_below r2 q.below)
 have hle:=lowS_le rs x
 have E:=lastLe_eq hs x
 obtain ⟨i,hi⟩:∃ i,lowS rs x=i:=⟨_,rfl⟩
 rw [hi] at HB hle E
 clear h r2 r3 hs
 have r1a:=kept_cell r1 ((Q.refl w).alloc #[.string ⟨#[]⟩,.int .i64 0,.int .i64 0,.string ⟨#[]⟩] 62)
 cases hh:hasS rs x with
 | true =>
  rw [hh] at HB E
  simp only [if_true] at E
  have hlt:i<rs.length:=by
   have h1:x∈stampsOf rs:=by unfold hasS at hh;simpa using hh
   rcases Nat.lt_or_ge i rs.length with h2|h2
   ·exact h2
   ·exfalso
    have h3:(stampsOf rs).countP (·<x)=(stampsOf rs).length:=by
     have:lowS rs x=rs.length:=by omega
     unfold lowS at this
     simpa using this
    rw [List.countP_eq_length] at h3
    have:=h3 x h1
    simp at this
  obtain ⟨r,hr⟩:∃ r,rs[i]?=some r:=⟨_,List.getElem?_eq_getElem hlt⟩
  rw [hr] at E
  rw [E]
  simp only [Option.getD_some,Option.isSome_some,Rec.val]
  obtain ⟨g,cap,v1,vg,v2,v3,v4,v5⟩:=HM.out.at hr
  have hltI:(i:Int)<(rs.length:Int):=by omega
  clear E hr hh hi
  go_enter Tryz.func103,Tryz.ntmps103
  go_wp2_with fail
  refine (HB.out _ ((Q.refl w).alloc _ _)).mono ?_
  rintro e w1 ⟨rfl,q1⟩
  have hV:=(varN_new w [.string ⟨#[]⟩,.int .i64 0,.int .i64 0,.string ⟨#[]⟩] 62).kept q1
  have q1':=((Q.refl w).alloc _ _).trans q1
  have k1:=kept_cell v1 q1'
  have k2:=kept_cell v2 q1'
  have k3:=kept_cell v3 q1'
  have k4:=kept_cell v4 q1'
  have k5:=kept_cell v5 q1'
  have b0:=hV.cell 0 rfl
  have b1:=hV.cell 1 rfl
  have b2:=hV.cell 2 rfl
  have b3:=hV.cell 3 rfl
  have d0:=hV.free 0 rfl
  have d1:=hV.free 1 rfl
  have d2:=hV.free 2 rfl
  have d3:=hV.free 3 rfl
  have hset:=(((hV.set 0 (.string r.key)).set 1 (.int .i64 r.stamp)).set 2 (.int .i64 r.kind)).set 3 (.string r.body)
  have m0:=hset.cell 0 rfl
  have m1:=hset.cell 1 rfl
  have m2:=hset.cell 2 rfl
  have m3:=hset.cell 3 rfl
  have hq:=(((q1'.setCell (p:=⟨w.heap.size,0,none⟩) (Nat.le_refl _) (.string r.key)).setCell (p:=⟨w.heap.size,1,none⟩) (Nat.le_refl _) (.int .i64 r.stamp)).setCell (p:=⟨w.heap.size,2,none⟩) (Nat.le_refl _) (.int .i64 r.kind)).setCell (p:=⟨w.heap.size,3,none⟩) (Nat.le_refl _) (.string r.body)
  clear hset hV q1 q1' HB v1 v2 v3 v4 v5
  go_wp2_with fail
  refine bodyPost_ret (v:=.tuple #[.agg #[.string r.key,.int .i64 r.stamp,.int .i64 r.kind,.string r.body],.bool true]) (by simp [results,Tryz.results103,go_sem,m0,m1,m2,m3]) rfl ?_
  exact ⟨rfl,hq⟩
 | false =>
  rw [hh] at HB E
  simp only [Bool.false_eq_true,if_false] at E
  by_cases h0:i=0
  ·rw [if_pos h0] at E
   rw [E]
   simp only [Option.getD_none,Option.isSome_none,Rec.val,zeroRec]
   subst h0
   clear E hh hi
   go_enter Tryz.func103,Tryz.ntmps103
   go_wp2_with fail
   refine (HB.out _ ((Q.refl w).alloc _ _)).mono ?_
   rintro e w1 ⟨rfl,q1⟩
   have hV:=((varN_new w [.string ⟨#[]⟩,.int .i64 0,.int .i64 0,.string ⟨#[]⟩] 62).kept q1).kept ((Q.refl _).alloc #[.string ⟨#[]⟩,.int .i64 0,.int .i64 0,.string ⟨#[]⟩] 62)
   have q1':=(((Q.refl w).alloc _ _).trans q1).alloc #[.string ⟨#[]⟩,.int .i64 0,.int .i64 0,.string ⟨#[]⟩] 62
   have b0:=hV.cell 0 rfl
   have b1:=hV.cell 1 rfl
   have b2:=hV.cell 2 rfl
   have b3:=hV.cell 3 rfl
   have d0:=hV.free 0 rfl
   have d1:=hV.free 1 rfl
   have d2:=hV.free 2 rfl
   have d3:=hV.free 3 rfl
   have hset:=(((hV.set 0 (.string ⟨#[]⟩)).set 1 (.int .i64 0)).set 2 (.int .i64 0)).set 3 (.string ⟨#[]⟩)
   have m0:=hset.cell 0 rfl
   have m1:=hset.cell 1 rfl
   have m2:=hset.cell 2 rfl
   have m3:=hset.cell 3 rfl
   have hq:=(((q1'.setCell (p:=⟨w.heap.size,0,none⟩) (Nat.le_refl _) (.string ⟨#[]⟩)).setCell (p:=⟨w.heap.size,1,none⟩) (Nat.le_refl _) (.int .i64 0)).setCell (p:=⟨w.heap.size,2,none⟩) (Nat.le_refl _) (.int .i64 0)).setCell (p:=⟨w.heap.size,3,none⟩) (Nat.le_refl _) (.string ⟨#[]⟩)
   clear hset hV q1 q1' HB
   go_wp2_with fail
   refine bodyPost_ret (v:=.tuple #[.agg #[.string ⟨#[]⟩,.int .i64 0,.int .i64 0,.string ⟨#[]⟩],.bool false]) (by simp [results,Tryz.results103,go_sem,m0,m1,m2,m3]) rfl ?_
   exact ⟨rfl,hq⟩
  ·rw [if_neg h0] at E
   obtain ⟨j,rfl⟩:∃ j,i=j+1:=⟨i-1,by omega⟩
   rw [Nat.add_sub_cancel] at E
   obtain ⟨r,hr⟩:∃ r,rs[j]?=some r:=⟨_,List.getElem?_eq_getElem (by omega)⟩
   rw [hr] at E
   rw [E]
   simp only [Option.getD_some,Option.isSome_some,Rec.val]
   obtain ⟨g,cap,v1,vg,v2,v3,v4,v5⟩:=HM.out.at hr
   have hj:((j+1:Nat):Int)-1=(j:Int):=by omega
   have hltI:(j:Int)<(rs.length:Int):=by omega
   have hne:(((j+1:Nat):Int) == 0)=false:=by rw [beq_eq_false_iff_ne];omega
   have hneI:¬((j+1:Nat):Int)=0:=by omega
   clear E hr hh hi
   go_enter Tryz.func103,Tryz.ntmps103
   go_wp2_with fail
   refine (HB.out _ ((Q.refl w).alloc _ _)).mono ?_
   rintro e w1 ⟨rfl,q1⟩
   have hV:=(varN_new w [.string ⟨#[]⟩,.int .i64 0,.int .i64 0,.string ⟨#[]⟩] 62).kept q1
   have q1':=((Q.refl w).alloc _ _).trans q1
   have k1:=kept_cell v1 q1'
   have k2:=kept_cell v2 q1'
   have k3:=kept_cell v3 q1'
   have k4:=kept_cell v4 q1'
   have k5:=kept_cell v5 q1'
   have b0:=hV.cell 0 rfl
   have b1:=hV.cell 1 rfl
   have b2:=hV.cell 2 rfl
   have b3:=hV.cell 3 rfl
   have d0:=hV.free 0 rfl
   have d1:=hV.free 1 rfl
   have d2:=hV.free 2 rfl
   have d3:=hV.free 3 rfl
   have hset:=(((hV.set 0 (.string r.key)).set 1 (.int .i64 r.stamp)).set 2 (.int .i64 r.kind)).set 3 (.string r.body)
   have m0:=hset.cell 0 rfl
   have m1:=hset.cell 1 rfl
   have m2:=hset.cell 2 rfl
   have m3:=hset.cell 3 rfl
   have hq:=(((q1'.setCell (p:=⟨w.heap.size,0,none⟩) (Nat.le_refl _) (.string r.key)).setCell (p:=⟨w.heap.size,1,none⟩) (Nat.le_refl _) (.int .i64 r.stamp)).setCell (p:=⟨w.heap.size,2,none⟩) (Nat.le_refl _) (.int .i64 r.kind)).setCell (p:=⟨w.heap.size,3,none⟩) (Nat.le_refl _) (.string r.body)
   clear hset hV q1 q1' HB v1 v2 v3 v4 v5
   go_wp2_with fail
   refine bodyPost_ret (v:=.tuple #[.agg #[.string r.key,.int .i64 r.stamp,.int .i64 r.kind,.string r.body],.bool true]) (by simp [results,Tryz.results103,go_sem,m0,m1,m2,m3]) rfl ?_
   exact ⟨rfl,hq⟩
end Go.Proofs.YtekdenkllipehabGreatDoor
