import Derived.Test.YtekdenkllipehabGreatDoorK09
import Derived.Test.YtekdenkllipehabGreatDoorRows
import Derived.Deep.QuietTactic
import Derived.BigQuiet
import Derived.Laws.Cover1
import Derived.Deep.DeepCutAuto
set_option maxRecDepth 100000
set_option maxHeartbeats 8000000
namespace Go.Proofs.YtekdenkllipehabGreatDoor
open Go.RowKit
theorem within_any (n l m:Int) (w:World) :
  Calls Tryz.prog 192 #[.int .i64 n,.int .i64 l,.int .i64 m] w fun e w'=>e=.returned (.bool (decide (l≤n∧n≤m)))∧w'=w:=by
 by_cases h:l≤n
 ·have E:decide (l≤n∧n≤m)=decide (n≤m):=by rw [decide_eq_decide];omega
  rw [E]
  go_enter Tryz.func192,Tryz.ntmps192
  go_wp2_with fail
  go_ret
  exact ⟨rfl,rfl⟩
 ·have E:decide (l≤n∧n≤m)=false:=by simp;omega
  rw [E]
  go_enter Tryz.func192,Tryz.ntmps192
  go_wp2_with fail
  go_ret
  exact ⟨rfl,rfl⟩
theorem bounded_any (r:Rec) (w:World) :
  Calls Tryz.prog 169 #[r.val] w fun e w'=>e=.returned (.bool r.fits)∧Q w w':=by
 obtain ⟨key,stamp,kind,body⟩:=r
 simp only [Rec.val,Rec.fits]
 have W:Hid _:=within_any
 obtain ⟨b1,h1⟩:∃ b,b=decide ((1:Int)≤(key.size:Int)∧(key.size:Int)≤64):=⟨_,rfl⟩
 obtain ⟨b2,h2⟩:∃ b,b=decide ((0:Int)≤stamp∧stamp≤1099511627776):=⟨_,rfl⟩
 obtain ⟨b3,h3⟩:∃ b,b=decide ((0:Int)≤kind∧kind≤2):=⟨_,rfl⟩
 obtain ⟨b4,h4⟩:∃ b,b=decide ((0:Int)≤(body.size:Int)∧(body.size:Int)≤4200):=⟨_,rfl⟩
 have E:decide (1≤key.size∧key.size≤64∧body.size≤4200∧0≤stamp∧stamp≤1099511627776∧0≤kind∧kind≤2)=(b1 && b2 && b3 && b4):=by
  rw [h1,h2,h3,h4,Bool.eq_iff_iff]
  simp only [decide_eq_true_eq,Bool.and_eq_true]
  omega
 rw [E]
 clear E
 have W1:=fun w=>W.out (key.size:Int) 1 64 w
 have W2:=fun w=>W.out stamp 0 1099511627776 w
 have W3:=fun w=>W.out kind 0 2 w
 have W4:=fun w=>W.out (body.size:Int) 0 4200 w
 rw [←h1] at W1
 rw [←h2] at W2
 rw [←h3] at W3
 rw [←h4] at W4
 have V1:Hid _:=W1
 have V2:Hid _:=W2
 have V3:Hid _:=W3
 have V4:Hid _:=W4
 clear W1 W2 W3 W4 W h1 h2 h3 h4
 go_enter Tryz.func169,Tryz.ntmps169
 go_wp2_with fail
 refine (V1.out _).mono ?_
 rintro e w1 ⟨rfl,rfl⟩
 cases b1 with
 | false =>
  go_wp2_with fail
  go_ret
  exact ⟨rfl,(Q.refl w).alloc _ _⟩
 | true =>
  go_wp2_with fail
  refine (V2.out _).mono ?_
  rintro e w1 ⟨rfl,rfl⟩
  cases b2 with
  | false =>
   go_wp2_with fail
   go_ret
   exact ⟨rfl,(Q.refl w).alloc _ _⟩
  | true =>
   go_wp2_with fail
   refine (V3.out _).mono ?_
   rintro e w1 ⟨rfl,rfl⟩
   cases b3 with
   | false =>
    go_wp2_with fail
    go_ret
    exact ⟨rfl,(Q.refl w).alloc _ _⟩
   | true =>
    go_wp2_with fail
    refine (V4.out _).mono ?_
    rintro e w1 ⟨rfl,rfl⟩
    go_wp2_with fail
    go_ret
    exact ⟨by cases b4<;>rfl,(Q.refl w).alloc _ _⟩
theorem bytesLess_irrefl:∀ l:List UInt8,Op.bytesLess l l=false
 | []=>rfl
 | a::l=>by simp [Op.bytesLess,bytesLess_irrefl l]
theorem bytesLess_total:∀ x y:List UInt8,Op.bytesLess y x=!(Op.bytesLess x y || x == y)
 | [],[]=>rfl
 | [],_::_=>rfl
 | _::_,[]=>rfl
 | a::x,b::y=>by
  simp only [Op.bytesLess,List.cons_beq_cons,bytesLess_total x y]
  by_cases h:a=b
  ·subst h
   simp
  ·have h1:(a == b)=false:=by simpa using h
   have h2:(b == a)=false:=by simpa using fun e=>h e.symm
   rw [h1,h2]
   simp
   have hn:a.toNat≠b.toNat:=fun e=>h (UInt8.toNat_inj.1 e)
   rw [Bool.eq_iff_iff]
   simp [UInt8.lt_iff_toNat_lt]
   omega
theorem follows_eq (p r:Rec):(!(Op.bytesLess r.key.toList p.key.toList || r.key.toList == p.key.toList) || (r.key.toList == p.key.toList && decide (r.stamp<p.stamp)))=!p.wrong r:=by
 rw [←bytesLess_total]
 unfold Rec.wrong Rec.less Rec.same
 by_cases h:p.key.toList=r.key.toList
 ·rw [h,bytesLess_irrefl]
  simp
  by_cases hs:r.stamp<p.stamp
  ·simp [hs]
  ·simp [hs]
   omega
 ·have h1:(p.key.toList == r.key.toList)=false:=by simpa using h
  have h2:(r.key.toList == p.key.toList)=false:=by simpa using fun e=>h e.symm
  rw [h1,h2]
  simp
theorem follows_any (p r:Rec) (w:World) :
  Calls Tryz.prog 170 #[r.val,p.val] w fun e w'=>e=.returned (.bool (!p.wrong r))∧Q w w':=by
 rw [←follows_eq]
 obtain ⟨key,stamp,kind,body⟩:=r
 obtain ⟨pkey,pstamp,pkind,pbody⟩:=p
 simp only [Rec.val]
 cases h1:Op.bytesLess key.toList pkey.toList<;>cases h2:(key.toList == pkey.toList)
 all_goals
  go_enter Tryz.func170,Tryz.ntmps170
  go_wp2_with fail
  go_ret
  exact ⟨by simp,((Q.refl w).alloc _ _).alloc _ _⟩
def aheadKey (rs:List Rec) (k:Nat):ByteArray:=if k % 8=0 then ⟨#[]⟩ else ((rs[k-1]?).map Rec.key).getD ⟨#[]⟩
theorem keyAhead_any (rs:List Rec) (ao:Option Addr) (n cap k:Nat) (hk:k≤rs.length) (hn:rs.length≤n∨k % 8=0) (hk2:k≤140737488351232) (hkn:0<k→k≤n) (w:World) (hr:rs=[]∨∃ b off,ao=some ⟨b,off,none⟩∧RecsAt w b off rs) :
  Calls Tryz.prog 168 #[.slice ao n cap,.int .i64 (k:Int)] w fun e w'=>e=.returned (.string (aheadKey rs k))∧Q w w':=by
 unfold aheadKey
 by_cases h8:k % 8=0
 ·rw [if_pos h8]
  have e8:(k:Int).tmod 8=0:=by rw [Int.tmod_eq_emod_of_nonneg (by omega)];omega
  go_enter Tryz.func168,Tryz.ntmps168
  go_wp2_with fail
  go_ret
  exact ⟨rfl,Q.refl w⟩
 ·rw [if_neg h8]
  have hk0:0<k:=by omega
  rcases hr with rfl|⟨b,off,rfl,hr⟩
  ·simp at hk;omega
  ·obtain ⟨j,rfl⟩:∃ j,k=j+1:=⟨k-1,by omega⟩
   have hj:rs[j]?=some rs[j]:=List.getElem?_eq_getElem (by omega)
   obtain ⟨c0,_,_,_⟩:=hr j _ hj
   simp only [Nat.add_sub_cancel,hj,Option.map_some,Option.getD_some]
   generalize rs[j]=r at *
   have e8:((((j+1:Nat):Int).tmod 8) == 0)=false:=by rw [Int.tmod_eq_emod_of_nonneg (by omega),beq_eq_false_iff_ne];omega
   have hw:IntKind.i64.wrap (((j+1:Nat):Int)-1)=(j:Int):=by rw [IntKind.wrap_i64];omega
   have hjn:=hkn hk0
   go_enter Tryz.func168,Tryz.ntmps168
   go_wp2_with fail
   go_ret
   exact ⟨rfl,Q.refl w⟩
end Go.Proofs.YtekdenkllipehabGreatDoor
namespace Go.Proofs.YtekdenkllipehabGreatDoor
open Go.RowKit
def Rcs (w:World) (ao:Option Addr) (rs:List Rec):Prop:=rs=[]∨∃ b off,ao=some ⟨b,off,none⟩∧b<w.heap.size∧RecsAt w b off rs
theorem RecsAt.kept {w w':World} {b off:Nat} {rs:List Rec} (h:RecsAt w b off rs) (q:Q w w'):RecsAt w' b off rs:=fun i r hi=>by
 obtain ⟨h0,h1,h2,h3⟩:=h i r hi
 exact ⟨kept_cell h0 q,kept_cell h1 q,kept_cell h2 q,kept_cell h3 q⟩
theorem Rcs.kept {w w':World} {ao:Option Addr} {rs:List Rec} (h:Rcs w ao rs) (q:Q w w'):Rcs w' ao rs:=by
 rcases h with h|⟨b,off,rfl,hb,hr⟩
 ·exact Or.inl h
 ·exact Or.inr ⟨b,off,rfl,Nat.lt_of_lt_of_le hb q.below.size,hr.kept q⟩
theorem Rcs.at {w:World} {ao:Option Addr} {rs:List Rec} (h:Rcs w ao rs) {k:Nat} (hk:k<rs.length):∃ b off,ao=some ⟨b,off,none⟩∧b<w.heap.size∧RecsAt w b off rs:=by
 rcases h with rfl|h
 ·simp at hk
 ·exact h
def fitTo (rs:List Rec) (k:Nat):Bool:=(textTo rs k).isSome
theorem fitTo_good {rs:List Rec} {k:Nat} {r:Rec} (h:fitTo rs k=true) (hr:rs[k]?=some r) (hb:badAt rs k r=false):fitTo rs (k+1)=true:=by
 unfold fitTo at *
 obtain ⟨t,ht⟩:=Option.isSome_iff_exists.1 h
 rw [textTo_good ht hr hb];rfl
theorem fitTo_bad {rs:List Rec} {k:Nat} {r:Rec} (hk:k<rs.length) (hr:rs[k]?=some r) (hb:badAt rs k r=true):(plainText rs).isSome=false:=by
 unfold plainText
 split
 ·rfl
 ·have h:=textTo_bad hr hb
  have:=textTo_none h (rs.length-(k+1))
  rw [show k+1+(rs.length-(k+1))=rs.length by omega] at this
  rw [this];rfl
theorem fit_any (rs:List Rec) (ao:Option Addr) (cap:Nat) (w:World) (h:Rcs w ao rs) (hl:rs.length≤140737488351232) :
  Calls Tryz.prog 138 #[.slice ao rs.length cap] w fun e w'=>e=.returned (.bool (plainText rs).isSome)∧Q w w':=by
 by_cases h64:64<rs.length
 ·have E:(plainText rs).isSome=false:=by unfold plainText;rw [if_pos h64];rfl
  rw [E]
  go_enter Tryz.func138,Tryz.ntmps138
  go_wp2_with fail
  go_ret
  exact ⟨rfl,Q.refl w⟩
 ·have HE:Hid (fitTo rs rs.length=(plainText rs).isSome):=by unfold fitTo plainText;rw [if_neg h64];exact rfl
  have H0:Hid (fitTo rs 0=true):=(rfl:fitTo rs 0=true)
  have HG:Hid (∀ (k:Nat) (r:Rec),fitTo rs k=true→rs[k]?=some r→badAt rs k r=false→fitTo rs (k+1)=true):=fun k r=>fitTo_good
  have HB:Hid (∀ (k:Nat) (r:Rec),rs[k]?=some r→badAt rs k r=true→(plainText rs).isSome=false):=fun k r hr hb=>fitTo_bad (List.getElem?_eq_some_iff.1 hr).1 hr hb
  have HH:Hid (Rcs w ao rs):=h
  have HBd:Hid _:=bounded_any
  have HF:Hid _:=follows_any
  clear h
  go_enter Tryz.func138,Tryz.ntmps138
  go_wp2_with fail
  go_loopw [10] (fun i wr=>∃ k:Nat,i=.int .i64 k∧k≤rs.length∧Hid (fitTo rs k=true)∧Q w wr) (fun i _=>rs.length-(intOf i).toNat)
  case atStart=>exact ⟨0,rfl,Nat.zero_le _,H0,Q.refl w⟩
  case round =>
   obtain ⟨k,rfl,hk,hfk,hq⟩:=hrel
   by_cases hlt:k<rs.length
   ·obtain ⟨b,off,rfl,hb,hat⟩:=(HH.out.kept hq).at hlt
    have hg:rs[k]?=some rs[k]:=List.getElem?_eq_getElem hlt
    obtain ⟨c0,c1,c2,c3⟩:=hat k _ hg
    have HGk:Hid _:=fun hbad=>HG.out k _ hfk.out hg hbad
    have HBk:Hid _:=fun hbad=>HB.out k _ hg hbad
    obtain ⟨bd,hbd⟩:∃ bd,bd=badAt rs k rs[k]:=⟨_,rfl⟩
    rw [←hbd] at HGk HBk
    have BD:=HBd.out rs[k]
    generalize hr:rs[k]=r at *
    go_upto_region 6 with fail
    go_cut [31] (fun x wx=>x=.bool bd∧Q wr wx)
    case first =>
     have qa:Q wr (wr.alloc (.cells #[.string r.key,.int .i64 r.stamp,.int .i64 r.kind,.string r.body] 62)):=(Q.refl wr).alloc _ _
     obtain ⟨wa,hwa⟩:∃ wa,wa=wr.alloc (.cells #[.string r.key,.int .i64 r.stamp,.int .i64 r.kind,.string r.body] 62):=⟨_,rfl⟩
     have v0:wa.cell? ⟨wr.heap.size,0,none⟩=some (.string r.key):=by rw [hwa];simp
     have v1:wa.cell? ⟨wr.heap.size,1,none⟩=some (.int .i64 r.stamp):=by rw [hwa];simp
     have v2:wa.cell? ⟨wr.heap.size,2,none⟩=some (.int .i64 r.kind):=by rw [hwa];simp
     have v3:wa.cell? ⟨wr.heap.size,3,none⟩=some (.string r.body):=by rw [hwa];simp
     rw [←hwa] at qa ⊢
     clear hwa
     simp only [Rec.val] at BD
     have BH:Hid _:=BD
     clear BD c0 c1 c2 c3 HGk HBk
     cases hf:r.fits with
     | false =>
      rw [hf] at BH
      obtain rfl:bd=true:=by rw [hbd];simp [badAt,hf]
      clear hbd hf hat
      refine wp_region_held_drew (S:=fun w'=>Q wr w'∧w'.cell? ⟨wr.heap.size,0,none⟩=some (.string r.key)∧w'.cell? ⟨wr.heap.size,1,none⟩=some (.int .i64 r.stamp)∧w'.cell? ⟨wr.heap.size,2,none⟩=some (.int .i64 r.kind)∧w'.cell? ⟨wr.heap.size,3,none⟩=some (.string r.body)) (by kernel_rfl) ⟨qa.drew,v0,v1,v2,v3⟩ (fun hHeld=>?_)
      refine tk3 (i:=0) (v:=?_) rfl (Or.inl ⟨by kernel_rfl,?_⟩) hHeld ?_
      rotate_left
      ·(intro w hSw;(try dsimp only at hSw);go_simp;try with_reducible rfl)
      try simp only [Act.put,nrm]
      refine wpAnyH_ready (rs:=[1]) (by kernel_rfl) (by simp) ?_
      refine AllReadyH.cons rfl (fun K hK=>?_) AllReadyH.nil
      go_simp
      refine (BH.out _).mono ?_
      rintro e v1 ⟨rfl,q1⟩
      try go_wp2_with fail
      refine hK.out _ _ ⟨hHeld.1.trans q1,kept_cell hHeld.2.1 q1,kept_cell hHeld.2.2.1 q1,kept_cell hHeld.2.2.2.1 q1,kept_cell hHeld.2.2.2.2 q1⟩ (fun hHeld0=>?_)
      clear hK K hHeld
      have hHeld:=hHeld0
      clear hHeld0
      try simp only [Act.put,nrm]
      refine tk3 (i:=2) (v:=?_) rfl (Or.inl ⟨by kernel_rfl,?_⟩) hHeld ?_
      rotate_left
      ·(intro w hSw;(try dsimp only at hSw);go_simp;try with_reducible rfl)
      try simp only [Act.put,nrm]
      refine tk3 (i:=3) (v:=?_) rfl (Or.inl ⟨by kernel_rfl,?_⟩) hHeld ?_
      rotate_left
      ·(intro w hSw;(try dsimp only at hSw);go_simp;try with_reducible rfl)
      try simp only [Act.put,nrm]
      refine tk3 (i:=4) (v:=undef) rfl (Or.inr ⟨by kernel_rfl,rfl⟩) hHeld ?_
      try simp only [Act.put,nrm]
      refine tk3 (i:=5) (v:=undef) rfl (Or.inr ⟨by kernel_rfl,rfl⟩) hHeld ?_
      try simp only [Act.put,nrm]
      refine tk3 (i:=6) (v:=undef) rfl (Or.inr ⟨by kernel_rfl,rfl⟩) hHeld ?_
      try simp only [Act.put,nrm]
      refine tk3 (i:=7) (v:=undef) rfl (Or.inr ⟨by kernel_rfl,rfl⟩) hHeld ?_
      try simp only [Act.put,nrm]
      refine tk3 (i:=8) (v:=undef) rfl (Or.inr ⟨by kernel_rfl,rfl⟩) hHeld ?_
      try simp only [Act.put,nrm]
      refine tk3 (i:=9) (v:=undef) rfl (Or.inr ⟨by kernel_rfl,rfl⟩) hHeld ?_
      try simp only [Act.put,nrm]
      refine tk3 (i:=10) (v:=undef) rfl (Or.inr ⟨by kernel_rfl,rfl⟩) hHeld ?_
      try simp only [Act.put,nrm]
      refine tk3 (i:=11) (v:=undef) rfl (Or.inr ⟨by kernel_rfl,rfl⟩) hHeld ?_
      try simp only [Act.put,nrm]
      refine tk3 (i:=12) (v:=undef) rfl (Or.inr ⟨by kernel_rfl,rfl⟩) hHeld ?_
      try simp only [Act.put,nrm]
      refine tk3 (i:=13) (v:=undef) rfl (Or.inr ⟨by kernel_rfl,rfl⟩) hHeld ?_
      try simp only [Act.put,nrm]
      refine tk3 (i:=14) (v:=undef) rfl (Or.inr ⟨by kernel_rfl,rfl⟩) hHeld ?_
      try simp only [Act.put,nrm]
      refine tk3 (i:=15) (v:=undef) rfl (Or.inr ⟨by kernel_rfl,rfl⟩) hHeld ?_
      try simp only [Act.put,nrm]
      refine tk3 (i:=16) (v:=?_) rfl (Or.inl ⟨by kernel_rfl,?_⟩) hHeld ?_
      rotate_left
      ·(intro w hSw;(try dsimp only at hSw);go_simp;try with_reducible rfl)
      try simp only [Act.put,nrm]
      refine wpAnyH_done (by kernel_rfl) ?_ _
      go_wp2_with fail
      go_meet
      case rel=>exact ⟨rfl,hHeld.1⟩
     | true =>
      rw [hf] at BH
      by_cases hk0:k=0
      ·subst hk0
       obtain rfl:bd=false:=by rw [hbd];simp [badAt,hf]
       clear hbd hf hat
       refine wp_region_held_drew (S:=fun w'=>Q wr w'∧w'.cell? ⟨wr.heap.size,0,none⟩=some (.string r.key)∧w'.cell? ⟨wr.heap.size,1,none⟩=some (.int .i64 r.stamp)∧w'.cell? ⟨wr.heap.size,2,none⟩=some (.int .i64 r.kind)∧w'.cell? ⟨wr.heap.size,3,none⟩=some (.string r.body)) (by kernel_rfl) ⟨qa.drew,v0,v1,v2,v3⟩ (fun hHeld=>?_)
       refine tk3 (i:=0) (v:=?_) rfl (Or.inl ⟨by kernel_rfl,?_⟩) hHeld ?_
       rotate_left
       ·(intro w hSw;(try dsimp only at hSw);go_simp;try with_reducible rfl)
       try simp only [Act.put,nrm]
       refine wpAnyH_ready (rs:=[1]) (by kernel_rfl) (by simp) ?_
       refine AllReadyH.cons rfl (fun K hK=>?_) AllReadyH.nil
       go_simp
       refine (BH.out _).mono ?_
       rintro e v1 ⟨rfl,q1⟩
       try go_wp2_with fail
       refine hK.out _ _ ⟨hHeld.1.trans q1,kept_cell hHeld.2.1 q1,kept_cell hHeld.2.2.1 q1,kept_cell hHeld.2.2.2.1 q1,kept_cell hHeld.2.2.2.2 q1⟩ (fun hHeld0=>?_)
       clear hK K hHeld
       have hHeld:=hHeld0
       clear hHeld0
       try simp only [Act.put,nrm]
       refine tk3 (i:=2) (v:=?_) rfl (Or.inl ⟨by kernel_rfl,?_⟩) hHeld ?_
       rotate_left
       ·(intro w hSw;(try dsimp only at hSw);go_simp;try with_reducible rfl)
       try simp only [Act.put,nrm]
       refine tk3 (i:=3) (v:=?_) rfl (Or.inl ⟨by kernel_rfl,?_⟩) hHeld ?_
       rotate_left
       ·(intro w hSw;(try dsimp only at hSw);go_simp;try with_reducible rfl)
       try simp only [Act.put,nrm]
       refine tk3 (i:=4) (v:=?_) rfl (Or.inl ⟨by kernel_rfl,?_⟩) hHeld ?_
       rotate_left
       ·(intro w hSw;(try dsimp only at hSw);go_simp;try with_reducible rfl)
       try simp only [Act.put,nrm]
       refine tk3 (i:=5) (v:=?_) rfl (Or.inl ⟨by kernel_rfl,?_⟩) hHeld ?_
       rotate_left
       ·(intro w hSw;(try dsimp only at hSw);go_simp;try with_reducible rfl)
       try simp only [Act.put,nrm]
       refine tk3 (i:=6) (v:=?_) rfl (Or.inl ⟨by kernel_rfl,?_⟩) hHeld ?_
       rotate_left
       ·(intro w hSw;(try dsimp only at hSw);go_simp;try with_reducible rfl)
       try simp only [Act.put,nrm]
       refine tk3 (i:=7) (v:=undef) rfl (Or.inr ⟨by kernel_rfl,rfl⟩) hHeld ?_
       try simp only [Act.put,nrm]
       refine tk3 (i:=8) (v:=undef) rfl (Or.inr ⟨by kernel_rfl,rfl⟩) hHeld ?_
       try simp only [Act.put,nrm]
       refine tk3 (i:=9) (v:=undef) rfl (Or.inr ⟨by kernel_rfl,rfl⟩) hHeld ?_
       try simp only [Act.put,nrm]
       refine tk3 (i:=10) (v:=undef) rfl (Or.inr ⟨by kernel_rfl,rfl⟩) hHeld ?_
       try simp only [Act.put,nrm]
       refine tk3 (i:=11) (v:=undef) rfl (Or.inr ⟨by kernel_rfl,rfl⟩) hHeld ?_
       try simp only [Act.put,nrm]
       refine tk3 (i:=12) (v:=undef) rfl (Or.inr ⟨by kernel_rfl,rfl⟩) hHeld ?_
       try simp only [Act.put,nrm]
       refine tk3 (i:=13) (v:=undef) rfl (Or.inr ⟨by kernel_rfl,rfl⟩) hHeld ?_
       try simp only [Act.put,nrm]
       refine tk3 (i:=14) (v:=undef) rfl (Or.inr ⟨by kernel_rfl,rfl⟩) hHeld ?_
       try simp only [Act.put,nrm]
       refine tk3 (i:=15) (v:=?_) rfl (Or.inl ⟨by kernel_rfl,?_⟩) hHeld ?_
       rotate_left
       ·(intro w hSw;(try dsimp only at hSw);go_simp;try with_reducible rfl)
       try simp only [Act.put,nrm]
       refine tk3 (i:=16) (v:=?_) rfl (Or.inl ⟨by kernel_rfl,?_⟩) hHeld ?_
       rotate_left
       ·(intro w hSw;(try dsimp only at hSw);go_simp;try with_reducible rfl)
       try simp only [Act.put,nrm]
       refine wpAnyH_done (by kernel_rfl) ?_ _
       go_wp2_with fail
       go_meet
       case rel=>exact ⟨rfl,hHeld.1⟩
      ·obtain ⟨j,rfl⟩:∃ j,k=j+1:=⟨k-1,by omega⟩
       have hgj:rs[j]?=some rs[j]:=List.getElem?_eq_getElem (by omega)
       obtain ⟨d0,d1,d2,d3⟩:=(hat.kept qa) j _ hgj
       have hbe:before rs (j+1) r=rs[j]:=by unfold before;simp [List.getD,hgj]
       have hbd2:bd=(rs[j]).wrong r:=by rw [hbd];simp [badAt,hf,hbe]
       have FH:=HF.out rs[j] r
       rw [←hbd2] at FH
       simp only [Rec.val] at FH
       have FO:Hid _:=FH
       generalize rs[j]=p at *
       have hwj:IntKind.i64.wrap (((j+1:Nat):Int)-1)=(j:Int):=by rw [IntKind.wrap_i64];omega
       have hj1:(j:Int)<(rs.length:Int):=by omega
       have hwj2:IntKind.i64.wrap (j:Int)=(j:Int):=by rw [IntKind.wrap_i64];omega
       have hj2:(0:Int)≤(j:Int):=by omega
       have hj3:j<rs.length:=by omega
       have hd0:decide ((0:Int)<(j:Int)+1)=true:=by rw [decide_eq_true_eq];omega
       have hj4:(0:Int)<(j:Int)+1:=by omega
       clear FH hbd2 hbe hbd hgj hf hat
       go_region_held3 (fun w'=>Q wr w'∧w'.cell? ⟨wr.heap.size,0,none⟩=some (.string r.key)∧w'.cell? ⟨wr.heap.size,1,none⟩=some (.int .i64 r.stamp)∧w'.cell? ⟨wr.heap.size,2,none⟩=some (.int .i64 r.kind)∧w'.cell? ⟨wr.heap.size,3,none⟩=some (.string r.body)∧w'.cell? ⟨b,off+j*4,none⟩=some (.string p.key)∧w'.cell? ⟨b,off+j*4+1,none⟩=some (.int .i64 p.stamp)∧w'.cell? ⟨b,off+j*4+2,none⟩=some (.int .i64 p.kind)∧w'.cell? ⟨b,off+j*4+3,none⟩=some (.string p.body)) (first | exact ⟨qa.drew,v0,v1,v2,v3,d0,d1,d2,d3⟩ | exact hS4 | exact hS5)
        (first
         | (go_at_call 169;refine (BH.out _).mono ?_;rintro e w4 ⟨rfl,q4⟩;have hS4:Q wr w4∧w4.cell? ⟨wr.heap.size,0,none⟩=some (.string r.key)∧w4.cell? ⟨wr.heap.size,1,none⟩=some (.int .i64 r.stamp)∧w4.cell? ⟨wr.heap.size,2,none⟩=some (.int .i64 r.kind)∧w4.cell? ⟨wr.heap.size,3,none⟩=some (.string r.body)∧w4.cell? ⟨b,off+j*4,none⟩=some (.string p.key)∧w4.cell? ⟨b,off+j*4+1,none⟩=some (.int .i64 p.stamp)∧w4.cell? ⟨b,off+j*4+2,none⟩=some (.int .i64 p.kind)∧w4.cell? ⟨b,off+j*4+3,none⟩=some (.string p.body):=⟨qa.trans (q_undrew q4),kept_cell v0 (q_undrew q4),kept_cell v1 (q_undrew q4),kept_cell v2 (q_undrew q4),kept_cell v3 (q_undrew q4),kept_cell d0 (q_undrew q4),kept_cell d1 (q_undrew q4),kept_cell d2 (q_undrew q4),kept_cell d3 (q_undrew q4)⟩)
         | (go_at_call 170;refine (FO.out _).mono ?_;rintro e w5 ⟨rfl,q5⟩;have hS5:Q wr w5∧w5.cell? ⟨wr.heap.size,0,none⟩=some (.string r.key)∧w5.cell? ⟨wr.heap.size,1,none⟩=some (.int .i64 r.stamp)∧w5.cell? ⟨wr.heap.size,2,none⟩=some (.int .i64 r.kind)∧w5.cell? ⟨wr.heap.size,3,none⟩=some (.string r.body)∧w5.cell? ⟨b,off+j*4,none⟩=some (.string p.key)∧w5.cell? ⟨b,off+j*4+1,none⟩=some (.int .i64 p.stamp)∧w5.cell? ⟨b,off+j*4+2,none⟩=some (.int .i64 p.kind)∧w5.cell? ⟨b,off+j*4+3,none⟩=some (.string p.body):=⟨hS4.1.trans q5,kept_cell hS4.2.1 q5,kept_cell hS4.2.2.1 q5,kept_cell hS4.2.2.2.1 q5,kept_cell hS4.2.2.2.2.1 q5,kept_cell hS4.2.2.2.2.2.1 q5,kept_cell hS4.2.2.2.2.2.2.1 q5,kept_cell hS4.2.2.2.2.2.2.2.1 q5,kept_cell hS4.2.2.2.2.2.2.2.2 q5⟩))
       all_goals
        go_wp2_with fail
        go_meet
        case rel=>exact ⟨by simp,hS5.1⟩
    case rest =>
     obtain ⟨rfl,qc⟩:=hcut
     cases bd with
     | true =>
      have E:=HBk.out rfl
      have E2:Hid _:=E
      clear E HGk HBk hbd BD
      go_wp2_with fail
      go_ret
      exact ⟨congrArg (fun b=>Ending.returned (.bool b)) E2.out.symm,hq.trans qc⟩
     | false =>
      have E:Hid (fitTo rs (k+1)=true):=HGk.out rfl
      clear HGk HBk hbd BD
      go_wp2_with fail
      go_roundw
      case rel=>exact ⟨k+1,by go_num,by omega,E,hq.trans qc⟩
      case measure=>simp [intOf];omega
   ·obtain rfl:k=rs.length:=by omega
    have E:Hid ((plainText rs).isSome=true):=HE.out.symm.trans hfk.out
    go_wp2_with fail
    go_ret
    exact ⟨congrArg (fun b=>Ending.returned (.bool b)) E.out.symm,hq⟩
end Go.Proofs.YtekdenkllipehabGreatDoor
