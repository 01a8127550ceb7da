import Derived.Test.YtekdenkllipehabGreatDoorK27
import Derived.Test.YtekdenkllipehabGreatDoorK30
import Derived.Test.YtekdenkllipehabGreatDoorK33
import Derived.Test.YtekdenkllipehabGreatDoorK38
set_option maxRecDepth 100000
set_option maxHeartbeats 8000000
namespace Go.Proofs.YtekdenkllipehabGreatDoor
open Go.RowKit
theorem isNaNStr (x:ByteArray) (w:World):Calls Tryz.prog 145 #[.string x] w fun e w'=>e=.returned (.bool false)∧w'=w:=by
 go_enter Tryz.func145,Tryz.ntmps145
 go_wp2_with fail
 go_ret
 exact ⟨by simp,rfl⟩
theorem lessStr (a b:ByteArray) (w:World):Calls Tryz.prog 107 #[.string a,.string b] w fun e w'=>e=.returned (.bool (decide (S.kless a b)))∧w'=w:=by
 have HN:Hid _:=isNaNStr
 have hd:decide (S.kless a b)=Op.bytesLess a.toList b.toList:=by
  by_cases h:Op.bytesLess a.toList b.toList=true
  ·exact (decide_eq_true h).trans h.symm
  ·exact (decide_eq_false h).trans (Bool.eq_false_iff.2 h).symm
 rw [hd]
 go_enter Tryz.func107,Tryz.ntmps107
 go_wp2_with (go_at_call 145;refine (HN.out _ _).mono ?_;rintro e w' ⟨rfl,rfl⟩)
 go_ret
 exact ⟨rfl,rfl⟩
theorem cmpStr (a b:ByteArray) (w:World):Calls Tryz.prog 151 #[.string a,.string b] w fun e w'=>e=.returned (.int .i64 (if S.kless a b then -1 else if a=b then 0 else 1))∧w'=w:=by
 have HN:Hid _:=isNaNStr
 by_cases hk:S.kless a b
 ·rw [if_pos hk]
  have h1:Op.bytesLess a.toList b.toList=true:=hk
  go_enter Tryz.func151,Tryz.ntmps151
  go_wp2_with (go_at_call 145;refine (HN.out _ _).mono ?_;rintro e w' ⟨rfl,rfl⟩)
  go_ret
  exact ⟨rfl,rfl⟩
 ·rw [if_neg hk]
  have h1:Op.bytesLess a.toList b.toList=false:=by
   cases h:Op.bytesLess a.toList b.toList with
   | true=>exact absurd h hk
   | false=>rfl
  by_cases hab:a=b
  ·subst hab
   rw [if_pos rfl]
   go_enter Tryz.func151,Tryz.ntmps151
   go_wp2_with (go_at_call 145;refine (HN.out _ _).mono ?_;rintro e w' ⟨rfl,rfl⟩)
   go_ret
   exact ⟨rfl,rfl⟩
  ·rw [if_neg hab]
   have h2:Op.bytesLess b.toList a.toList=true:=by
    rcases S.kless_total a b with h|h|h
    ·exact absurd h hk
    ·exact absurd h hab
    ·exact h
   have h3:(a.toList == b.toList)=false:=by rw [beq_eq_false_iff_ne];exact fun e=>hab (M.bytes_ext e)
   have h4:(!a.toList == b.toList)=true:=by rw [h3];rfl
   go_enter Tryz.func151,Tryz.ntmps151
   go_wp2_with (go_at_call 145;refine (HN.out _ _).mono ?_;rintro e w' ⟨rfl,rfl⟩)
   go_ret
   exact ⟨rfl,rfl⟩
def KeysAt (w:World) (g:Nat) (ao:Option Addr) (ks:List ByteArray):Prop:=ks=[]∨∃ off,ao=some ⟨g,off,none⟩∧∀ i k,ks[i]?=some k→w.cell? ⟨g,off+i,none⟩=some (.string k)
theorem KeysAt.head {w:World} {g:Nat} {ao:Option Addr} {k:ByteArray} {ks:List ByteArray} (h:KeysAt w g ao (k::ks)):∃ off,ao=some ⟨g,off,none⟩∧w.cell? ⟨g,off,none⟩=some (.string k):=by
 rcases h with h|⟨off,h1,h2⟩
 ·cases h
 ·exact ⟨off,h1,h2 0 k rfl⟩
theorem KeysAt.tail {w:World} {g off:Nat} {k:ByteArray} {ks:List ByteArray} (h:KeysAt w g (some ⟨g,off,none⟩) (k::ks)):KeysAt w g (some ⟨g,off+1,none⟩) ks:=by
 rcases h with h|⟨off',h1,h2⟩
 ·cases h
 ·injection h1 with h1
  injection h1 with _ h1
  subst h1
  refine Or.inr ⟨off+1,rfl,fun i x hx=>?_⟩
  have:=h2 (i+1) x (by simpa using hx)
  rw [show off+1+i=off+(i+1) by omega]
  exact this
theorem KeysAt.of_block {w w':World} {g:Nat} {ao:Option Addr} {ks:List ByteArray} (h:KeysAt w g ao ks) (hb:w'.heap[g]?=w.heap[g]?):KeysAt w' g ao ks:=by
 rcases h with h|⟨off,h1,h2⟩
 ·exact Or.inl h
 ·exact Or.inr ⟨off,h1,fun i k hk=>(World.cell?_of_block (a:=⟨g,off+i,none⟩) hb).trans (h2 i k hk)⟩
theorem lower_l (a:ByteArray) (n g off lc:Nat) (ra:Option Addr) (rc:Nat) (w:World) (h1:w.cell? ⟨g,off,none⟩=some (.string a)) :
  Calls Tryz.prog 120 #[.slice (some ⟨g,off,none⟩) (n+1) lc,.slice ra 0 rc] w fun e w'=>e=.returned (.string a)∧Q w w':=by
 have hl0:(0:Int)<((n+1:Nat):Int):=by omega
 go_enter Tryz.func120,Tryz.ntmps120
 go_upto_region 1 with fail
 go_quiet (fail)
 go_wp2_with fail
 go_ret
 exact ⟨rfl,(Q.refl w).drewN _⟩
theorem lower_r (b:ByteArray) (n g off lc:Nat) (la:Option Addr) (rc:Nat) (w:World) (h1:w.cell? ⟨g,off,none⟩=some (.string b)) :
  Calls Tryz.prog 120 #[.slice la 0 lc,.slice (some ⟨g,off,none⟩) (n+1) rc] w fun e w'=>e=.returned (.string b)∧Q w w':=by
 have hl0:(0:Int)<((n+1:Nat):Int):=by omega
 have hne:¬((n+1:Nat):Int)=0:=by omega
 have hneb:(((n+1:Nat):Int) == 0)=false:=by rw [beq_eq_false_iff_ne];exact hne
 have hne2:¬((n:Int)+1=0):=by omega
 have hneb2:((n:Int)+1 == 0)=false:=by rw [beq_eq_false_iff_ne];exact hne2
 go_enter Tryz.func120,Tryz.ntmps120
 go_upto_region 1 with fail
 go_quiet (fail)
 go_wp2_with fail
 go_ret
 exact ⟨rfl,(Q.refl w).drewN _⟩
theorem lower_b (a b:ByteArray) (m n g off lc g' offr:Nat) (rc:Nat) (w:World) (h1:w.cell? ⟨g,off,none⟩=some (.string a)) (h2:w.cell? ⟨g',offr,none⟩=some (.string b)) :
  Calls Tryz.prog 120 #[.slice (some ⟨g,off,none⟩) (m+1) lc,.slice (some ⟨g',offr,none⟩) (n+1) rc] w fun e w'=>e=.returned (.string (if S.kless a b then a else b))∧Q w w':=by
 have HL:Hid _:=fun (W:World)=>lessStr a b W
 have hl0:(0:Int)<((n+1:Nat):Int):=by omega
 have hl1:(0:Int)<((m+1:Nat):Int):=by omega
 have hne:¬((n+1:Nat):Int)=0:=by omega
 have hneb:(((n+1:Nat):Int) == 0)=false:=by rw [beq_eq_false_iff_ne];exact hne
 have hne2:¬((n:Int)+1=0):=by omega
 have hneb2:((n:Int)+1 == 0)=false:=by rw [beq_eq_false_iff_ne];exact hne2
 obtain ⟨c,hc⟩:∃ c,decide (S.kless a b)=c:=⟨_,rfl⟩
 rw [hc] at HL
 have hr:(if S.kless a b then a else b)=if c=true then a else b:=by
  by_cases hk:S.kless a b
  ·rw [if_pos hk,if_pos (by rw [←hc];exact decide_eq_true hk)]
  ·rw [if_neg hk,if_neg (by rw [←hc];simpa using hk)]
 rw [hr]
 clear hr hc
 go_enter Tryz.func120,Tryz.ntmps120
 go_upto_region 1 with fail
 go_region_held3 (fun w'=>Q w w'∧w'.cell? ⟨g,off,none⟩=some (.string a)∧w'.cell? ⟨g',offr,none⟩=some (.string b)) (first | exact ⟨Q.refl w,h1,h2⟩ | exact ⟨(Q.refl w).drew,h1,h2⟩)
  (first | (go_at_call 107;refine (HL.out _).mono ?_;rintro e w4 ⟨rfl,rfl⟩))
 cases c
 ·go_wp2_with fail
  go_ret
  exact ⟨rfl,(Q.refl w).drew⟩
 ·go_wp2_with fail
  go_ret
  exact ⟨rfl,(Q.refl w).drew⟩
theorem lowerStr (l r:List ByteArray) (h:¬(l=[]∧r=[])) (g g':Nat) (la ra:Option Addr) (lc rc:Nat) (w:World) (hl:KeysAt w g la l) (hr:KeysAt w g' ra r) :
  Calls Tryz.prog 120 #[.slice la l.length lc,.slice ra r.length rc] w fun e w'=>e=.returned (.string (S.low l r))∧Q w w':=by
 cases r with
 | nil =>
  cases l with
  | nil=>exact absurd ⟨rfl,rfl⟩ h
  | cons a t =>
   obtain ⟨off,rfl,h1⟩:=hl.head
   exact lower_l a t.length g off lc ra rc w h1
 | cons b u =>
  obtain ⟨offr,rfl,h2⟩:=hr.head
  cases l with
  | nil=>exact lower_r b u.length g' offr lc la rc w h2
  | cons a t =>
   obtain ⟨off,rfl,h1⟩:=hl.head
   exact lower_b a b t.length u.length g off lc g' offr rc w h1 h2
theorem behindStr (l:List ByteArray) (k:ByteArray) (g:Nat) (la:Option Addr) (lc:Nat) (w:World) (hl:KeysAt w g la l) (hc:l.length≤lc) :
  Calls Tryz.prog 121 #[.slice la l.length lc,.string k] w fun e w'=>(∃ ao cap,e=.returned (.slice ao (S.beh l k).length cap)∧KeysAt w g ao (S.beh l k)∧(S.beh l k).length≤cap)∧w'=w:=by
 have HL:Hid _:=cmpStr
 cases l with
 | nil =>
  have hb:S.beh [] k=[]:=rfl
  rw [hb,List.length_nil]
  clear HL hl hb
  go_enter Tryz.func121,Tryz.ntmps121
  go_wp2_with fail
  go_ret
  exact ⟨⟨la,lc,rfl,Or.inl rfl,Nat.zero_le _⟩,rfl⟩
 | cons a t =>
  obtain ⟨off,rfl,h1⟩:=hl.head
  have hlen:(a::t).length=t.length+1:=rfl
  have hl0:(0:Int)<((t.length+1:Nat):Int):=by omega
  rw [hlen] at hc ⊢
  by_cases hk:a=k
  ·subst hk
   rw [S.beh_self]
   have hcmp:(if S.kless a a then (-1:Int) else if a=a then 0 else 1)=0:=by rw [if_neg (S.kless_irrefl a),if_pos rfl]
   have HT:Hid (KeysAt w g (some ⟨g,off+1,none⟩) t):=hl.tail
   clear hl hlen
   go_enter Tryz.func121,Tryz.ntmps121
   go_wp2_with (go_at_call 151;refine (HL.out _ _ _).mono ?_;rintro e w' ⟨rfl,rfl⟩;rw [hcmp])
   all_goals
    go_ret
    exact ⟨⟨_,_,rfl,(by first | exact HT.out | exact Or.inl (List.eq_nil_of_length_eq_zero (by omega))),by omega⟩,rfl⟩
  ·rw [S.beh_ne hk]
   have hcmp:((if S.kless a k then (-1:Int) else if a=k then 0 else 1) == 0)=false:=by
    rw [if_neg hk,beq_eq_false_iff_ne]
    split<;>decide
   have HK:Hid (KeysAt w g (some ⟨g,off,none⟩) (a::t)):=hl
   obtain ⟨c,hc1⟩:∃ c,(if S.kless a k then (-1:Int) else if a=k then 0 else 1)=c:=⟨_,rfl⟩
   rw [hc1] at hcmp
   have hcmp2:¬c=0:=by rw [beq_eq_false_iff_ne] at hcmp;exact hcmp
   clear hl hlen
   go_enter Tryz.func121,Tryz.ntmps121
   go_wp2_with (go_at_call 151;refine (HL.out _ _ _).mono ?_;rintro e w' ⟨rfl,rfl⟩;rw [hc1])
   go_ret
   exact ⟨⟨_,_,rfl,HK.out,hc⟩,rfl⟩
def UniG (U:List ByteArray) (_:Tags) (i:Nat) (vs:Array Value) (_:World):Prop:=∃ k,U[i]?=some k∧vs=#[.string k]
theorem uni_next {n:Nat} {l r U:List ByteArray} {i:Nat} (hU:U.drop i=S.uni n l r) (hn:l.length+r.length≤n) (h:¬(l=[]∧r=[])) :
  U[i]?=some (S.low l r)∧U.drop (i+1)=S.uni (n-1) (S.beh l (S.low l r)) (S.beh r (S.low l r))∧(S.beh l (S.low l r)).length+(S.beh r (S.low l r)).length≤n-1:=by
 have hb:=S.beh_less h
 cases n with
 | zero=>omega
 | succ n =>
  unfold S.uni at hU
  rw [if_neg h] at hU
  have h0:(U.drop i)[0]?=some (S.low l r):=by rw [hU];rfl
  rw [List.getElem?_drop,Nat.add_zero] at h0
  refine ⟨h0,?_,by omega⟩
  have:(U.drop i).drop 1=U.drop (i+1):=by rw [List.drop_drop]
  rw [←this,hU]
  rfl
theorem uni_end {n:Nat} {l r U:List ByteArray} {i:Nat} (hU:U.drop i=S.uni n l r) (h:l=[]∧r=[]) (hi:i≤U.length):i=U.length:=by
 have:S.uni n l r=[]:=by cases n with
  | zero=>rfl
  | succ n=>unfold S.uni;rw [if_pos h]
 rw [this,List.drop_eq_nil_iff] at hU
 omega
theorem len_right {r:List ByteArray} (he:¬(([]:List ByteArray)=[]∧r=[])):0<r.length:=Nat.pos_of_ne_zero fun e=>he ⟨rfl,List.eq_nil_of_length_eq_zero e⟩
theorem KeysAt.keptB {Bo:Nat→Prop} {tg tg0:Tags} {g:Nat} {n:Nat} (htg:∀ k,k<n→tg k=tg0 k) (hg:g<n∧¬Bo (tg0 g).1) {W:World} {ao:Option Addr} {ks:List ByteArray} (h1:KeysAt W g ao ks) {W':World} {tg1:Tags} (h2:Kept Bo tg W tg1 W') (h3:n≤W.heap.size):KeysAt W' g ao ks:=
 h1.of_block (h2.block g (Nat.lt_of_lt_of_le hg.1 h3) (by rw [htg g hg.1];exact hg.2))
def lenOf:Value→Nat
 | .slice _ n _=>n
 | _=>0
theorem union1 (n:Nat) (hn:1≤n) (l r:List ByteArray) (Ba Bb s g g':Nat) (la ra:Option Addr) (lc rc:Nat) (So Bo Bx:Nat→Prop) (tg0:Tags) (w:World)
  (b1:w.cell? ⟨Ba,0,none⟩=some (.pointer (some ⟨s,4,none⟩))) (b2:w.cell? ⟨Bb,0,none⟩=some (.pointer (some ⟨s,6,none⟩))) (c1:w.cell? ⟨s,4,none⟩=some (.slice la l.length lc)) (c2:w.cell? ⟨s,6,none⟩=some (.slice ra r.length rc))
  (hl:KeysAt w g la l) (hr:KeysAt w g' ra r) (hlc:l.length≤lc) (hrc:r.length≤rc) (hg:g<w.heap.size∧¬Bo (tg0 g).1) (hg':g'<w.heap.size∧¬Bo (tg0 g').1) :
  SeqX Fence.wide n Tryz.prog 119 #[.pointer (some ⟨Ba,0,none⟩),.pointer (some ⟨Bb,0,none⟩)] (S.uni (l.length+r.length) l r).length So Bo Bx (fun _=>True) (UniG (S.uni (l.length+r.length) l r)) tg0 w:=by
 intro lp J Jx hJ hJx hY h0
 obtain ⟨U,hU⟩:∃ U,U=S.uni (l.length+r.length) l r:=⟨_,rfl⟩
 rw [←hU] at hY ⊢
 have LW:Hid _:=lowerStr
 have BH:Hid _:=behindStr
 refine callsIn_of_wp Tryz.func119 rfl trivial ?_ rfl
 simp only [Tryz.ntmps119,List.size_toArray,List.length_cons,List.length_nil,Nat.reduceAdd,Nat.reduceSub,Array.replicate_succ,Array.replicate_zero,List.push_toArray,List.append_toArray,List.nil_append,List.cons_append]
 have hmx:Tryz.prog.follows .mixedOrders=true:=by kernel_rfl
 gi_wp2
 gi_region_o
 all_goals gi_wp2
 gi_loopw [4,5] (fun lv rv wr=>∃ (tg:Tags) (i:Nat) (l' r':List ByteArray) (la' ra':Option Addr) (lc' rc' m:Nat),lv=.slice la' l'.length lc'∧rv=.slice ra' r'.length rc'∧U.drop i=S.uni m l' r'∧l'.length+r'.length≤m∧i≤U.length∧KeysAt wr g la' l'∧KeysAt wr g' ra' r'∧l'.length≤lc'∧r'.length≤rc'∧J tg i wr∧(∀ k,k<w.heap.size→tg k=tg0 k)∧w.heap.size≤wr.heap.size)
  (fun lv rv _=>lenOf lv+lenOf rv)
 case atStart =>
  exact ⟨tg0,0,l,r,la,ra,lc,rc,l.length+r.length,rfl,rfl,by rw [List.drop_zero];exact hU,Nat.le_refl _,Nat.zero_le _,hl.of_block rfl,hr.of_block rfl,hlc,hrc,hJ _ _ _ _ _ h0 (Kept.of_q ((Q.refl w).drew) (fun _ _=>rfl)),fun _ _=>rfl,Nat.le_refl _⟩
 case round =>
  obtain ⟨tg,i,l',r',la',ra',lc',rc',m,rfl,rfl,hd,hm,hi,hkl,hkr,hc1,hc2,hJi,htg,hsz⟩:=hrel
  clear hl hr hlc hrc b1 b2 c1 c2 hU h0
  by_cases he:l'=[]∧r'=[]
  ·obtain ⟨rfl,rfl⟩:=he
   have hie:=uni_end hd ⟨rfl,rfl⟩ hi
   subst hie
   simp only [List.length_nil]
   gi_wp2
   go_end0
   exact ⟨⟨_,rfl⟩,tg,Or.inl hJi⟩
  ·obtain ⟨hk,hd',hm'⟩:=uni_next hd hm he
   have HB:Hid _:=And.intro hk (And.intro hd' (And.intro hm' (S.beh_less he)))
   have LW2:Hid _:=fun (W:World) (q:Q wr W)=>LW.out l' r' he g g' la' ra' lc' rc' W (hkl.of_block (q.below.block g (Nat.lt_of_lt_of_le hg.1 hsz))) (hkr.of_block (q.below.block g' (Nat.lt_of_lt_of_le hg'.1 hsz)))
   have BL:Hid _:=fun (k:ByteArray) (W:World) (q:Q wr W)=>BH.out l' k g la' lc' W (hkl.of_block (q.below.block g (Nat.lt_of_lt_of_le hg.1 hsz))) hc1
   have BR:Hid _:=fun (k:ByteArray) (W:World) (q:Q wr W)=>BH.out r' k g' ra' rc' W (hkr.of_block (q.below.block g' (Nat.lt_of_lt_of_le hg'.1 hsz))) hc2
   obtain ⟨ky,hky⟩:∃ ky,S.low l' r'=ky:=⟨_,rfl⟩
   rw [hky] at LW2 HB
   clear LW BH hkl hkr hd hm hk hd' hm'
   rcases Nat.eq_zero_or_pos l'.length with h0|h0
   ·obtain rfl:=List.eq_nil_of_length_eq_zero h0
    have h2:0<r'.length:=len_right he
    have p2:(0:Int)<(r'.length:Int):=by exact_mod_cast h2
    simp only [List.length_nil] at *
    gi_wp2_with (refine ⟨trivial,?_⟩;gi_at_call 120;refine (callsIn_wide.2 (LW2.out _ (Q.refl wr))).mono ?_;rintro e w1 ⟨rfl,q1⟩)
    refine ⟨trivial,(callsIn_wide.2 (BL.out ky _ q1)).mono ?_⟩
    rintro e w2 ⟨⟨ao1,cap1,rfl,hA,hAc⟩,rfl⟩
    gi_wp2
    refine ⟨trivial,(callsIn_wide.2 (BR.out ky _ q1)).mono ?_⟩
    rintro e w3 ⟨⟨ao2,cap2,rfl,hB,hBc⟩,rfl⟩
    obtain ⟨fn,tmps,assign,body,hy,hR⟩:=hY tg i #[.string ky] _ (hJ _ _ _ _ _ hJi (Kept.of_q q1 (fun _ _=>rfl))) ⟨ky,HB.out.1,rfl⟩
    gi_wp2
    refine hR.mono ?_
    rintro e W3 ⟨tg1,⟨hk1,rfl,_,hJ3⟩|⟨hk1,rfl,hJx3⟩⟩
    ·gi_wp2
     go_roundw
     case rel=>exact ⟨tg1,i+1,_,_,ao1,ao2,cap1,cap2,m-1,rfl,rfl,HB.out.2.1,HB.out.2.2.1,(List.getElem?_eq_some_iff.1 HB.out.1).1,KeysAt.keptB htg hg hA hk1 (Nat.le_trans hsz q1.below.size),KeysAt.keptB htg hg' hB hk1 (Nat.le_trans hsz q1.below.size),hAc,hBc,hJ3,fun k hk=>(hk1.tags k (Nat.lt_of_lt_of_le hk (Nat.le_trans hsz q1.below.size))).trans (htg k hk),Nat.le_trans hsz (Nat.le_trans q1.below.size hk1.size)⟩
     case measure=>simp only [lenOf];exact HB.out.2.2.2
    ·gi_wp2
     refine bodyPost_ret (results_none rfl _ _ _) rfl ?_
     exact ⟨⟨_,rfl⟩,tg1,.inr ⟨_,hJx3⟩⟩
   ·have p1:(0:Int)<(l'.length:Int):=by exact_mod_cast h0
    gi_wp2_with (refine ⟨trivial,?_⟩;gi_at_call 120;refine (callsIn_wide.2 (LW2.out _ (Q.refl wr))).mono ?_;rintro e w1 ⟨rfl,q1⟩)
    refine ⟨trivial,(callsIn_wide.2 (BL.out ky _ q1)).mono ?_⟩
    rintro e w2 ⟨⟨ao1,cap1,rfl,hA,hAc⟩,rfl⟩
    gi_wp2
    refine ⟨trivial,(callsIn_wide.2 (BR.out ky _ q1)).mono ?_⟩
    rintro e w3 ⟨⟨ao2,cap2,rfl,hB,hBc⟩,rfl⟩
    obtain ⟨fn,tmps,assign,body,hy,hR⟩:=hY tg i #[.string ky] _ (hJ _ _ _ _ _ hJi (Kept.of_q q1 (fun _ _=>rfl))) ⟨ky,HB.out.1,rfl⟩
    gi_wp2
    refine hR.mono ?_
    rintro e W3 ⟨tg1,⟨hk1,rfl,_,hJ3⟩|⟨hk1,rfl,hJx3⟩⟩
    ·gi_wp2
     go_roundw
     case rel=>exact ⟨tg1,i+1,_,_,ao1,ao2,cap1,cap2,m-1,rfl,rfl,HB.out.2.1,HB.out.2.2.1,(List.getElem?_eq_some_iff.1 HB.out.1).1,KeysAt.keptB htg hg hA hk1 (Nat.le_trans hsz q1.below.size),KeysAt.keptB htg hg' hB hk1 (Nat.le_trans hsz q1.below.size),hAc,hBc,hJ3,fun k hk=>(hk1.tags k (Nat.lt_of_lt_of_le hk (Nat.le_trans hsz q1.below.size))).trans (htg k hk),Nat.le_trans hsz (Nat.le_trans q1.below.size hk1.size)⟩
     case measure=>simp only [lenOf];exact HB.out.2.2.2
    ·gi_wp2
     refine bodyPost_ret (results_none rfl _ _ _) rfl ?_
     exact ⟨⟨_,rfl⟩,tg1,.inr ⟨_,hJx3⟩⟩
end Go.Proofs.YtekdenkllipehabGreatDoor
