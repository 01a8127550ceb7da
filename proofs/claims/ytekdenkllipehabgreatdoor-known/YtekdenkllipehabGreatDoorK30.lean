import Derived.Test.YtekdenkllipehabGreatDoorK19
import Derived.Test.YtekdenkllipehabGreatDoorK20
set_option maxRecDepth 100000
set_option maxHeartbeats 8000000
namespace Go.Proofs.YtekdenkllipehabGreatDoor
open Go.RowKit
theorem isNaNInt (x:Int) (w:World):Calls Tryz.prog 148 #[.int .i64 x] w fun e w'=>e=.returned (.bool false)∧w'=w:=by
 go_enter Tryz.func148,Tryz.ntmps148
 go_wp2_with fail
 go_ret
 exact ⟨by simp,rfl⟩
def cmpI (a b:Int):Int:=if a<b then -1 else if b<a then 1 else 0
theorem cmpInt (a b:Int) (w:World):Calls Tryz.prog 144 #[.int .i64 a,.int .i64 b] w fun e w'=>e=.returned (.int .i64 (cmpI a b))∧w'=w:=by
 have HN:Hid _:=isNaNInt
 unfold cmpI
 by_cases h1:a<b
 ·rw [if_pos h1]
  go_enter Tryz.func144,Tryz.ntmps144
  go_wp2_with (go_at_call 148;refine (HN.out _ _).mono ?_;rintro e w' ⟨rfl,rfl⟩)
  go_ret
  exact ⟨rfl,rfl⟩
 ·rw [if_neg h1]
  by_cases h2:b<a
  ·rw [if_pos h2]
   go_enter Tryz.func144,Tryz.ntmps144
   go_wp2_with (go_at_call 148;refine (HN.out _ _).mono ?_;rintro e w' ⟨rfl,rfl⟩)
   go_ret
   exact ⟨rfl,rfl⟩
  ·rw [if_neg h2]
   go_enter Tryz.func144,Tryz.ntmps144
   go_wp2_with (go_at_call 148;refine (HN.out _ _).mono ?_;rintro e w' ⟨rfl,rfl⟩)
   go_ret
   exact ⟨rfl,rfl⟩
theorem cmpOr (a b:Int) (g:Nat) (w:World) (h0:w.cell? ⟨g,0,none⟩=some (.int .i64 a)) (h1:w.cell? ⟨g,1,none⟩=some (.int .i64 b)) :
  Calls Tryz.prog 142 #[.slice (some ⟨g,0,none⟩) 2 2] w fun e w'=>e=.returned (.int .i64 (if a=0 then b else a))∧Q w w':=by
 obtain ⟨v,hv⟩:∃ v,(if a=0 then b else a)=v:=⟨_,rfl⟩
 rw [hv]
 have HV:Hid ((if a=0 then b else a)=v):=hv
 clear hv
 go_enter Tryz.func142,Tryz.ntmps142
 go_wp2_with fail
 go_loopw [8] (fun t wr=>∃ k:Nat,t=.int .i64 (k:Int)∧k≤2∧Hid ((1≤k→a=0)∧(2≤k→b=0))∧wr=w) (fun t _=>2-(intOf t).toNat)
 case atStart=>exact ⟨0,rfl,Nat.zero_le _,(⟨fun h=>absurd h (by decide),fun h=>absurd h (by decide)⟩:(1≤0→a=0)∧(2≤0→b=0)),rfl⟩
 case round =>
  obtain ⟨k,rfl,hk,hab,rfl⟩:=hrel
  match k,hk,hab with
  | 0,_,hab =>
   by_cases ha:a=0
   ·have hb2:(a == 0)=true:=by simp [ha]
    have HA:Hid ((1≤1→a=0)∧(2≤1→b=0)):=⟨fun _=>ha,fun h=>absurd h (by decide)⟩
    clear ha hab
    go_wp2_with fail
    go_roundw
    case rel=>exact ⟨1,rfl,by omega,HA,by simp⟩
    case measure=>simp [intOf]
   ·have hb2:(a == 0)=false:=by rw [beq_eq_false_iff_ne];exact ha
    have HE:Hid (a=v):=by rw [←HV.out,if_neg ha];exact rfl
    clear hab
    go_wp2_with fail
    go_ret
    exact ⟨by rw [←HE.out];rfl,Q.refl _⟩
  | 1,_,hab =>
   have ha:=hab.out.1 (by omega)
   have HE:Hid (b=v):=by rw [←HV.out,if_pos ha];exact rfl
   by_cases hb:b=0
   ·have hb2:(b == 0)=true:=by simp [hb]
    have HA:Hid ((1≤2→a=0)∧(2≤2→b=0)):=⟨fun _=>ha,fun _=>hb⟩
    clear ha hb hab
    go_wp2_with fail
    go_roundw
    case rel=>exact ⟨2,rfl,by omega,HA,by simp⟩
    case measure=>simp [intOf]
   ·have hb2:(b == 0)=false:=by rw [beq_eq_false_iff_ne];exact hb
    clear ha hab
    go_wp2_with fail
    go_ret
    exact ⟨by rw [←HE.out];rfl,Q.refl _⟩
  | 2,_,hab =>
   have ha:=hab.out.1 (by omega)
   have hb:=hab.out.2 (by omega)
   have HE:Hid (0=v):=by rw [←HV.out,if_pos ha,hb];exact rfl
   clear hab ha hb
   go_wp2_with fail
   go_ret
   exact ⟨by rw [←HE.out];rfl,Q.refl _⟩
theorem compareBytes_eq:∀ a b:List UInt8,Lib.compareBytes a b=if Op.bytesLess a b=true then -1 else if a=b then 0 else 1
 | [],[]=>by simp [Lib.compareBytes,Op.bytesLess]
 | [],y::b=>by simp [Lib.compareBytes,Op.bytesLess]
 | x::a,[]=>by simp [Lib.compareBytes,Op.bytesLess]
 | x::a,y::b=>by
  rw [Lib.compareBytes,M.less_cons,compareBytes_eq a b]
  by_cases h1:x<y
  ·simp [h1]
  ·by_cases h2:y<x
   ·have hne:x≠y:=fun e=>by subst e;exact h1 h2
    have hb:(x == y)=false:=by rw [beq_eq_false_iff_ne];exact hne
    simp [h1,h2,hb,hne]
   ·have he:x=y:=by
     rcases Nat.lt_trichotomy x.toNat y.toNat with h|h|h
     ·exact absurd h h1
     ·exact UInt8.toNat_inj.1 h
     ·exact absurd h h2
    subst he
    simp [h1]
def cmpE (k1:ByteArray) (s1:Int) (k2:ByteArray) (s2:Int):Int:=if Lib.compareBytes k1.data.toList k2.data.toList=0 then cmpI s2 s1 else Lib.compareBytes k1.data.toList k2.data.toList
theorem cmpE_neg (k1:ByteArray) (s1:Int) (k2:ByteArray) (s2:Int):cmpE k1 s1 k2 s2<0↔S.kless k1 k2∨(k1=k2∧s2<s1):=by
 unfold cmpE
 rw [compareBytes_eq]
 have e1:k1.toList=k1.data.toList:=ByteArray.toList_eq ..
 have e2:k2.toList=k2.data.toList:=ByteArray.toList_eq ..
 unfold S.kless
 rw [e1,e2]
 cases h:Op.bytesLess k1.data.toList k2.data.toList with
 | true=>simp
 | false =>
  by_cases he:k1.data.toList=k2.data.toList
  ·have hk:k1=k2:=M.bytes_ext (by rw [e1,e2,he])
   have hc:(if false=true then (-1:Int) else if k1.data.toList=k2.data.toList then 0 else 1)=0:=by simp [he]
   rw [hc,if_pos rfl]
   unfold cmpI
   constructor
   ·intro hlt
    refine Or.inr ⟨hk,?_⟩
    split at hlt
    ·assumption
    ·split at hlt<;>omega
   ·rintro (hx|⟨_,hx⟩)
    ·cases hx
    ·rw [if_pos hx];decide
  ·have hk:¬k1=k2:=fun e=>he (by rw [e])
   have hc:(if false=true then (-1:Int) else if k1.data.toList=k2.data.toList then 0 else 1)=1:=by rw [if_neg (by decide),if_neg he]
   rw [hc,if_neg (by decide)]
   constructor
   ·intro hx;exact absurd hx (by decide)
   ·rintro (hx|⟨hx,_⟩)
    ·cases hx
    ·exact absurd hx hk
theorem entCompare (l1 h1 s1 l2 h2 s2:Int) (k1 k2:ByteArray) (w:World) :
  Calls Tryz.prog 105 #[.agg #[.int .i64 l1,.int .i64 h1,.string k1,.int .i64 s1],.agg #[.int .i64 l2,.int .i64 h2,.string k2,.int .i64 s2]] w fun e w'=>e=.returned (.int .i64 (cmpE k1 s1 k2 s2))∧Q w w':=by
 have HS:Hid _:=fun W=>Any.strings_Compare laysCo k1 k2 W
 have HI:Hid _:=fun W=>cmpInt s2 s1 W
 have HO:Hid _:=fun (g:Nat) (W:World) (h0:W.cell? ⟨g,0,none⟩=some (.int .i64 (Lib.compareBytes k1.data.toList k2.data.toList))) (h1:W.cell? ⟨g,1,none⟩=some (.int .i64 (cmpI s2 s1)))=>cmpOr _ _ g W h0 h1
 unfold cmpE
 generalize Lib.compareBytes k1.data.toList k2.data.toList=c at *
 generalize cmpI s2 s1=d at *
 generalize (if c=0 then d else c)=z at *
 have hA:=varN_new w [.int .i64 l1,.int .i64 h1,.string k1,.int .i64 s1] 168
 have hA2:=hA.kept ((Q.refl _).alloc #[.int .i64 l2,.int .i64 h2,.string k2,.int .i64 s2] 168)
 have hB:=varN_new (w.alloc (.cells #[.int .i64 l1,.int .i64 h1,.string k1,.int .i64 s1] 168)) [.int .i64 l2,.int .i64 h2,.string k2,.int .i64 s2] 168
 rw [World.size_alloc] at hB
 obtain ⟨W0,hW0⟩:∃ W0,(w.alloc (.cells #[.int .i64 l1,.int .i64 h1,.string k1,.int .i64 s1] 168)).alloc (.cells #[.int .i64 l2,.int .i64 h2,.string k2,.int .i64 s2] 168)=W0:=⟨_,rfl⟩
 have hq0:Q w W0:=by rw [←hW0];exact ((Q.refl w).alloc _ _).alloc _ _
 go_enter Tryz.func105,Tryz.ntmps105
 rw [hW0] at hA2 hB
 have m0:=hA2.cell 2 rfl
 have m1:=hA2.cell 3 rfl
 have m2:=hB.cell 2 rfl
 have m3:=hB.cell 3 rfl
 clear hA hA2 hB
 go_upto_region 1 with fail
 go_region_held3 (fun w'=>w'.cell? ⟨w.heap.size,2,none⟩=some (.string k1)∧w'.cell? ⟨w.heap.size,3,none⟩=some (.int .i64 s1)∧w'.cell? ⟨w.heap.size+1,2,none⟩=some (.string k2)∧w'.cell? ⟨w.heap.size+1,3,none⟩=some (.int .i64 s2))
  (first | exact ⟨m0,m1,m2,m3⟩ | exact hS4 | exact hS5 | exact ⟨kept_cell m0 (((Q.refl _).alloc _ _).drew),kept_cell m1 (((Q.refl _).alloc _ _).drew),kept_cell m2 (((Q.refl _).alloc _ _).drew),kept_cell m3 (((Q.refl _).alloc _ _).drew)⟩)
  (first | (go_at_call 143;refine (HS.out _).mono ?_;rintro e v1 ⟨rfl,rfl⟩) | (go_at_call 144;refine (HI.out _).mono ?_;rintro e v2 ⟨rfl,rfl⟩) | (go_at_call 142;refine (HO.out _ _ (by simp) (by simp)).mono ?_;rintro e v3 ⟨rfl,q3⟩;have q4:Q W0 v3:=(((Q.refl W0).alloc _ _).drew).trans q3;have hS5:v3.cell? ⟨w.heap.size,2,none⟩=some (.string k1)∧v3.cell? ⟨w.heap.size,3,none⟩=some (.int .i64 s1)∧v3.cell? ⟨w.heap.size+1,2,none⟩=some (.string k2)∧v3.cell? ⟨w.heap.size+1,3,none⟩=some (.int .i64 s2):=⟨kept_cell m0 q4,kept_cell m1 q4,kept_cell m2 q4,kept_cell m3 q4⟩))
 go_wp2_with fail
 go_ret
 exact ⟨rfl,hq0.trans q4⟩
structure PartAt (es:List S.Ent) (key:ByteArray) (t:Int) (m:Nat):Prop where
 le:m≤es.length
 lo:∀ (i:Nat) (e:S.Ent),i<m→es[i]?=some e→cmpE e.key e.stamp key t<0
 hi:∀ (i:Nat) (e:S.Ent),m≤i→es[i]?=some e→¬cmpE e.key e.stamp key t<0
def BsSaid (m:Nat) (e:Ending):Prop:=∃ b:Bool,e=.returned (.tuple #[.int .i64 (m:Int),.bool b])
theorem bsFunc (es:List S.Ent) (hl:es.length≤1048576) (key:ByteArray) (t:Int) (m:Nat) (hm:PartAt es key t m) (ao:Option Addr) (cap:Nat) (w:World) (h:EntsAt w ao es) :
  Calls Tryz.prog 104 #[.slice ao es.length cap,.agg #[.int .i64 0,.int .i64 0,.string key,.int .i64 t],.func (.func 105) #[] #[]] w fun e w'=>BsSaid m e∧Q w w':=by
 have HH:Hid (EntsAt w ao es):=h
 have HP:Hid (PartAt es key t m):=hm
 have HC:Hid _:=fun (a b s:Int) (k:ByteArray) (W:World)=>entCompare a b s 0 0 t k key W
 have hml:=hm.le
 clear h hm
 go_enter Tryz.func104,Tryz.ntmps104
 go_wp2_with fail
 have hV0:=varN_new w [.int .i64 0,.int .i64 0,.string key,.int .i64 t] 168
 go_loopw [9,10] (fun ta tb wr=>∃ lo hi:Nat,ta=.int .i64 (lo:Int)∧tb=.int .i64 (hi:Int)∧lo≤m∧m≤hi∧hi≤es.length∧VarN wr w.heap.size [.int .i64 0,.int .i64 0,.string key,.int .i64 t]∧Q w wr) (fun ta tb _=>(intOf tb).toNat-(intOf ta).toNat)
 case atStart=>exact ⟨0,es.length,rfl,rfl,Nat.zero_le _,hml,Nat.le_refl _,hV0,(Q.refl w).alloc _ _⟩
 case round =>
  obtain ⟨lo,hi,rfl,rfl,h1,h2,h3,hV,hq⟩:=hrel
  by_cases hlt:lo<hi
  ·obtain ⟨md,hmd⟩:∃ md,(lo+hi) / 2=md:=⟨_,rfl⟩
   have hmdl:lo≤md∧md<hi:=by omega
   obtain ⟨e,he⟩:∃ e,es[md]?=some e:=⟨_,List.getElem?_eq_getElem (by omega)⟩
   rcases HH.out.kept hq with hnil|⟨g,rfl,hg,hc⟩
   ·rw [hnil] at h3;simp at h3;omega
   obtain ⟨c0,c1,c2,c3⟩:=hc md e he
   obtain ⟨sm,hsm⟩:∃ sm,lo+hi=sm:=⟨_,rfl⟩
   have hsum:(lo:Int)+(hi:Int)=(sm:Int):=by omega
   have hmdI:(sm:Int) / 2=(md:Int):=by omega
   have hsb:sm≤2097152:=by omega
   clear hsm hmd
   have hmdb:(md:Int)<(es.length:Int):=by omega
   have m0:=hV.cell 0 rfl
   have m1:=hV.cell 1 rfl
   have m2:=hV.cell 2 rfl
   have m3:=hV.cell 3 rfl
   have HC2:Hid _:=fun (W:World)=>HC.out (e.lo:Int) (e.hi:Int) (e.stamp:Int) e.key W
   have HPl:Hid (cmpE e.key e.stamp key t<0→md+1≤m):=fun hz=>by
    rcases Nat.lt_or_ge md m with h|h
    ·exact h
    ·exact absurd hz (HP.out.hi md e h he)
   have HPh:Hid (¬cmpE e.key e.stamp key t<0→m≤md):=fun hz=>by
    rcases Nat.lt_or_ge md m with h|h
    ·exact absurd (HP.out.lo md e h he) hz
    ·exact h
   generalize cmpE e.key e.stamp key t=z at *
   clear hc he HC HH
   by_cases hz:z<0
   ·have hlm:=HPl.out hz
    go_upto_region 5 with fail
    go_region_held3 (fun w'=>w'.cell? ⟨g,md*4,none⟩=some (.int .i64 (e.lo:Int))∧w'.cell? ⟨g,md*4+1,none⟩=some (.int .i64 (e.hi:Int))∧w'.cell? ⟨g,md*4+2,none⟩=some (.string e.key)∧w'.cell? ⟨g,md*4+3,none⟩=some (.int .i64 (e.stamp:Int))∧w'.cell? ⟨w.heap.size,0,none⟩=some (.int .i64 0)∧w'.cell? ⟨w.heap.size,1,none⟩=some (.int .i64 0)∧w'.cell? ⟨w.heap.size,2,none⟩=some (.string key)∧w'.cell? ⟨w.heap.size,3,none⟩=some (.int .i64 t))
     (first | exact ⟨c0,c1,c2,c3,m0,m1,m2,m3⟩ | exact hS5)
     (first | (go_at_call 105;refine (HC2.out _).mono ?_;rintro e' v3 ⟨rfl,q3⟩;have q4:Q wr v3:=(Q.refl wr).drew.trans q3;have hS5:v3.cell? ⟨g,md*4,none⟩=some (.int .i64 (e.lo:Int))∧v3.cell? ⟨g,md*4+1,none⟩=some (.int .i64 (e.hi:Int))∧v3.cell? ⟨g,md*4+2,none⟩=some (.string e.key)∧v3.cell? ⟨g,md*4+3,none⟩=some (.int .i64 (e.stamp:Int))∧v3.cell? ⟨w.heap.size,0,none⟩=some (.int .i64 0)∧v3.cell? ⟨w.heap.size,1,none⟩=some (.int .i64 0)∧v3.cell? ⟨w.heap.size,2,none⟩=some (.string key)∧v3.cell? ⟨w.heap.size,3,none⟩=some (.int .i64 t):=⟨kept_cell c0 q4,kept_cell c1 q4,kept_cell c2 q4,kept_cell c3 q4,kept_cell m0 q4,kept_cell m1 q4,kept_cell m2 q4,kept_cell m3 q4⟩))
    have hV3:=hV.kept q4
    have hq3:=hq.trans q4
    clear hS5 q3 q4 HC2 c0 c1 c2 c3 m0 m1 m2 m3 hV
    go_wp2_with fail
    go_roundw
    case rel=>exact ⟨md+1,hi,by go_num,rfl,hlm,h2,h3,hV3,hq3⟩
    case measure=>simp [intOf];omega
   ·have hlm:=HPh.out hz
    go_upto_region 5 with fail
    go_region_held3 (fun w'=>w'.cell? ⟨g,md*4,none⟩=some (.int .i64 (e.lo:Int))∧w'.cell? ⟨g,md*4+1,none⟩=some (.int .i64 (e.hi:Int))∧w'.cell? ⟨g,md*4+2,none⟩=some (.string e.key)∧w'.cell? ⟨g,md*4+3,none⟩=some (.int .i64 (e.stamp:Int))∧w'.cell? ⟨w.heap.size,0,none⟩=some (.int .i64 0)∧w'.cell? ⟨w.heap.size,1,none⟩=some (.int .i64 0)∧w'.cell? ⟨w.heap.size,2,none⟩=some (.string key)∧w'.cell? ⟨w.heap.size,3,none⟩=some (.int .i64 t))
     (first | exact ⟨c0,c1,c2,c3,m0,m1,m2,m3⟩ | exact hS5)
     (first | (go_at_call 105;refine (HC2.out _).mono ?_;rintro e' v3 ⟨rfl,q3⟩;have q4:Q wr v3:=(Q.refl wr).drew.trans q3;have hS5:v3.cell? ⟨g,md*4,none⟩=some (.int .i64 (e.lo:Int))∧v3.cell? ⟨g,md*4+1,none⟩=some (.int .i64 (e.hi:Int))∧v3.cell? ⟨g,md*4+2,none⟩=some (.string e.key)∧v3.cell? ⟨g,md*4+3,none⟩=some (.int .i64 (e.stamp:Int))∧v3.cell? ⟨w.heap.size,0,none⟩=some (.int .i64 0)∧v3.cell? ⟨w.heap.size,1,none⟩=some (.int .i64 0)∧v3.cell? ⟨w.heap.size,2,none⟩=some (.string key)∧v3.cell? ⟨w.heap.size,3,none⟩=some (.int .i64 t):=⟨kept_cell c0 q4,kept_cell c1 q4,kept_cell c2 q4,kept_cell c3 q4,kept_cell m0 q4,kept_cell m1 q4,kept_cell m2 q4,kept_cell m3 q4⟩))
    have hV3:=hV.kept q4
    have hq3:=hq.trans q4
    clear hS5 q3 q4 HC2 c0 c1 c2 c3 m0 m1 m2 m3 hV
    go_wp2_with fail
    go_roundw
    case rel=>exact ⟨lo,md,rfl,rfl,h1,hlm,by omega,hV3,hq3⟩
    case measure=>simp [intOf];omega
  ·obtain rfl:lo=m:=by omega
   obtain rfl:hi=lo:=by omega
   by_cases hn:hi<es.length
   ·obtain ⟨e,he⟩:∃ e,es[hi]?=some e:=⟨_,List.getElem?_eq_getElem hn⟩
    rcases HH.out.kept hq with hnil|⟨g,rfl,hg,hc⟩
    ·rw [hnil] at hn;simp at hn
    obtain ⟨c0,c1,c2,c3⟩:=hc hi e he
    have hnI:(hi:Int)<(es.length:Int):=by omega
    have m0:=hV.cell 0 rfl
    have m1:=hV.cell 1 rfl
    have m2:=hV.cell 2 rfl
    have m3:=hV.cell 3 rfl
    have HC2:Hid _:=fun (W:World)=>HC.out (e.lo:Int) (e.hi:Int) (e.stamp:Int) e.key W
    generalize cmpE e.key e.stamp key t=z at *
    clear hc he HC HH
    go_upto_region 8 with fail
    go_region_held3 (fun w'=>w'.cell? ⟨g,hi*4,none⟩=some (.int .i64 (e.lo:Int))∧w'.cell? ⟨g,hi*4+1,none⟩=some (.int .i64 (e.hi:Int))∧w'.cell? ⟨g,hi*4+2,none⟩=some (.string e.key)∧w'.cell? ⟨g,hi*4+3,none⟩=some (.int .i64 (e.stamp:Int))∧w'.cell? ⟨w.heap.size,0,none⟩=some (.int .i64 0)∧w'.cell? ⟨w.heap.size,1,none⟩=some (.int .i64 0)∧w'.cell? ⟨w.heap.size,2,none⟩=some (.string key)∧w'.cell? ⟨w.heap.size,3,none⟩=some (.int .i64 t))
     (first | exact ⟨c0,c1,c2,c3,m0,m1,m2,m3⟩ | exact hS5)
     (first | (go_at_call 105;refine (HC2.out _).mono ?_;rintro e' v3 ⟨rfl,q3⟩;have q4:Q wr v3:=(Q.refl wr).drew.trans q3;have hS5:v3.cell? ⟨g,hi*4,none⟩=some (.int .i64 (e.lo:Int))∧v3.cell? ⟨g,hi*4+1,none⟩=some (.int .i64 (e.hi:Int))∧v3.cell? ⟨g,hi*4+2,none⟩=some (.string e.key)∧v3.cell? ⟨g,hi*4+3,none⟩=some (.int .i64 (e.stamp:Int))∧v3.cell? ⟨w.heap.size,0,none⟩=some (.int .i64 0)∧v3.cell? ⟨w.heap.size,1,none⟩=some (.int .i64 0)∧v3.cell? ⟨w.heap.size,2,none⟩=some (.string key)∧v3.cell? ⟨w.heap.size,3,none⟩=some (.int .i64 t):=⟨kept_cell c0 q4,kept_cell c1 q4,kept_cell c2 q4,kept_cell c3 q4,kept_cell m0 q4,kept_cell m1 q4,kept_cell m2 q4,kept_cell m3 q4⟩))
    have hq3:=hq.trans q4
    clear hS5 q3 q4 HC2 c0 c1 c2 c3 m0 m1 m2 m3 hV
    go_wp2_with fail
    go_ret2
    exact ⟨⟨_,rfl⟩,hq3⟩
   ·have hnI:¬(hi:Int)<(es.length:Int):=by omega
    have hnd:decide ((hi:Int)<(es.length:Int))=false:=by simpa using hnI
    go_upto_region 8 with fail
    go_quiet (fail)
    go_wp2_with fail
    go_ret2
    exact ⟨⟨_,rfl⟩,hq.drewN _⟩
end Go.Proofs.YtekdenkllipehabGreatDoor
