import Derived.Test.YtekdenkllipehabGreatDoorK20
import Derived.Test.YtekdenkllipehabGreatDoorK24
set_option maxRecDepth 100000
set_option maxHeartbeats 8000000
namespace Go.Proofs.YtekdenkllipehabGreatDoor
open Go.RowKit
theorem build_any (rs:List Rec) (ao:Option Addr) (cap:Nat) (w:World) (h:Rcs w ao rs) (hl:rs.length≤140737488351232) (hT:Tab w) :
  Calls Tryz.prog 124 #[.slice ao rs.length cap] w fun e w'=>e=builtEnd (plainText rs)∧Q w w':=by
 have HF:=fit_any rs ao cap w h hl
 cases ht:plainText rs with
 | none =>
  rw [ht] at HF
  have HFi:Hid _:=fun (_:Unit)=>HF
  clear HF
  go_enter Tryz.func124,Tryz.ntmps124
  go_wp2_with fail
  refine (HFi.out ()).mono ?_
  rintro e w1 ⟨rfl,q1⟩
  go_wp2_with fail
  go_ret2
  exact ⟨rfl,q1⟩
 | some t =>
  rw [ht] at HF
  have HFi:Hid _:=fun (_:Unit)=>HF
  have HWr:Hid _:=fun W (q:Q w W)=>blkWrite_any rs t ht ao cap W (h.kept q)
  have hlt:=textTo_length (plainText_some ht).2
  have h64:=(plainText_some ht).1
  have hts:(⟨t.toArray⟩:ByteArray).size=t.length:=rfl
  have hSe:=fun W (hT:Tab W)=>wireSeal_any ⟨t.toArray⟩ (by rw [hts];omega) W hT
  rw [show (⟨t.toArray⟩:ByteArray).data.toList=t from List.toList_toArray] at hSe
  have HS:Hid _:=hSe
  have HR:Hid (builtEnd (some t)=.returned (.tuple #[.string ⟨(M.sealed t).toArray⟩,.int .i64 0])):=(rfl:builtEnd (some t)=_)
  rw [HR.out]
  generalize (⟨(M.sealed t).toArray⟩:ByteArray)=sx at *
  generalize (⟨t.toArray⟩:ByteArray)=tx at *
  clear HF hSe hts
  go_enter Tryz.func124,Tryz.ntmps124
  go_wp2_with fail
  refine (HFi.out ()).mono ?_
  rintro e w1 ⟨rfl,q1⟩
  go_wp2_with fail
  refine (HWr.out _ q1).mono ?_
  rintro e w2 ⟨rfl,q2⟩
  go_wp2_with fail
  refine (HS.out _ (tab_kept hT (q1.trans q2))).mono ?_
  rintro e w3 ⟨rfl,q3⟩
  go_wp2_with fail
  go_ret2
  exact ⟨rfl,(q1.trans q2).trans ⟨q3⟩⟩
theorem parse_refused (s u:ByteArray) (x:Int) (hx:x≠0) (w:World) (hU:Calls Tryz.prog 131 #[.string s] w fun e w'=>e=.returned (.tuple #[.string u,.int .i64 x])∧Q w w') :
  Calls Tryz.prog 99 #[.string s] w fun e w'=>e=.returned (.tuple #[.slice none 0 0,.int .i64 x])∧Q w w':=by
 have HU:Hid _:=fun (_:Unit)=>hU
 clear hU
 go_enter Tryz.func99,Tryz.ntmps99
 go_wp2_with fail
 refine (HU.out ()).mono ?_
 rintro e w1 ⟨rfl,q1⟩
 go_wp2_with fail
 go_ret2
 exact ⟨rfl,q1⟩
theorem own_rcs {w:World} {base:Nat} {ao:Option Addr} {cap:Nat} {L:List Rec} (h:w.ownsRow base 62 4 (.slice ao L.length cap) L.length (recCells L)):Rcs w ao L:=by
 by_cases hne:L=[]
 ·exact Or.inl hne
 ·obtain ⟨g,e,hg,hr⟩:=own_recs h hne
  exact Or.inr ⟨g,0,e,hg,hr⟩
theorem parse_open (s T:ByteArray) (hs:T.size≤140737488351232) (w:World) (hU:Calls Tryz.prog 131 #[.string s] w fun e w'=>e=.returned (.tuple #[.string T,.int .i64 0])∧Q w w') :
  Calls Tryz.prog 99 #[.string s] w fun e w'=>Parsed T w e w'∧Q w w':=by
 have HU:Hid _:=fun (_:Unit)=>hU
 have HRd:Hid _:=fun W=>read_any T hs W
 have hbl:(readAllTo T.data.toList).length≤64:=by
  unfold readAllTo
  rw [rdTo_length]
  exact (numTo_le (T:=T.data.toList) (most:=64) (a:=0) (by omega)).2.1
 have HP:Hid (∀ rs,plainText rs=some T.data.toList→readAllTo T.data.toList=rs):=fun rs=>readAllTo_plain
 generalize readAllTo T.data.toList=l at *
 have HFt:Hid _:=fun ao cap W h=>fit_any l ao cap W h (by omega)
 clear hU
 cases hp:plainText l with
 | none =>
  rw [hp] at HFt
  have HN:Hid (∀ rs,plainText rs≠some T.data.toList):=fun rs hr=>by
   have:=HP.out rs hr
   subst this
   rw [hp] at hr
   cases hr
  go_enter Tryz.func99,Tryz.ntmps99
  go_wp2_with fail
  refine (HU.out ()).mono ?_
  rintro e w1 ⟨rfl,q1⟩
  go_wp2_with fail
  refine (HRd.out _).mono ?_
  rintro e w2 ⟨⟨ao,cap,rfl,hown⟩,q2⟩
  go_wp2_with fail
  refine (HFt.out ao cap _ (own_rcs hown)).mono ?_
  rintro e w3 ⟨rfl,q3⟩
  go_wp2_with fail
  go_ret2
  exact ⟨Or.inr ⟨rfl,HN.out⟩,(q1.trans q2).trans q3⟩
 | some t =>
  rw [hp] at HFt
  have HWr:Hid _:=fun ao cap W h=>blkWrite_any l t hp ao cap W h
  have htl:(⟨t.toArray⟩:ByteArray).toList=t:=by rw [ByteArray.toList_eq]
  have hTl:T.toList=T.data.toList:=by rw [ByteArray.toList_eq]
  by_cases hEq:t=T.data.toList
  ·have hb:((⟨t.toArray⟩:ByteArray).toList == T.toList)=true:=by rw [htl,hTl];simpa using hEq
   have HPl:Hid (plainText l=some T.data.toList):=by show _=_;rw [hp,hEq]
   clear htl hTl hEq hp
   generalize (⟨t.toArray⟩:ByteArray)=tx at *
   go_enter Tryz.func99,Tryz.ntmps99
   go_wp2_with fail
   refine (HU.out ()).mono ?_
   rintro e w1 ⟨rfl,q1⟩
   go_wp2_with fail
   refine (HRd.out _).mono ?_
   rintro e w2 ⟨⟨ao,cap,rfl,hown⟩,q2⟩
   go_wp2_with fail
   refine (HFt.out ao cap _ (own_rcs hown)).mono ?_
   rintro e w3 ⟨rfl,q3⟩
   have hown3:=own_below hown q3.below
   go_wp2_with fail
   refine (HWr.out ao cap _ (own_rcs hown3)).mono ?_
   rintro e w4 ⟨rfl,q4⟩
   have hown4:=own_below hown3 q4.below
   go_wp2_with fail
   go_ret2
   exact ⟨Or.inl ⟨l,ao,cap,_,rfl,HPl.out,by have:=q1.below.size;omega,hown4⟩,((q1.trans q2).trans q3).trans q4⟩
  ·have hb:((⟨t.toArray⟩:ByteArray).toList == T.toList)=false:=by rw [htl,hTl];simpa using hEq
   have HN:Hid (∀ rs,plainText rs≠some T.data.toList):=fun rs hr=>by
    have:=HP.out rs hr
    subst this
    rw [hp] at hr
    exact hEq (Option.some.inj hr)
   clear htl hTl hEq hp
   generalize (⟨t.toArray⟩:ByteArray)=tx at *
   go_enter Tryz.func99,Tryz.ntmps99
   go_wp2_with fail
   refine (HU.out ()).mono ?_
   rintro e w1 ⟨rfl,q1⟩
   go_wp2_with fail
   refine (HRd.out _).mono ?_
   rintro e w2 ⟨⟨ao,cap,rfl,hown⟩,q2⟩
   go_wp2_with fail
   refine (HFt.out ao cap _ (own_rcs hown)).mono ?_
   rintro e w3 ⟨rfl,q3⟩
   have hown3:=own_below hown q3.below
   go_wp2_with fail
   refine (HWr.out ao cap _ (own_rcs hown3)).mono ?_
   rintro e w4 ⟨rfl,q4⟩
   go_wp2_with fail
   go_ret2
   exact ⟨Or.inr ⟨rfl,HN.out⟩,((q1.trans q2).trans q3).trans q4⟩
theorem parse_any (s:ByteArray) (hs:s.size≤140737488351232) (w:World) (hTab:Tab w) :
  Calls Tryz.prog 99 #[.string s] w fun e w'=>ParsedAny s w e w'∧Q w w':=by
 by_cases h4:s.size<4
 ·refine (parse_refused s ⟨#[]⟩ 2 (by decide) w ((unseal_short s h4 w).mono ?_)).mono ?_
  ·rintro e w' ⟨rfl,rfl⟩
   exact ⟨rfl,Q.refl _⟩
  ·rintro e w' ⟨rfl,q⟩
   exact ⟨Or.inl ⟨h4,rfl⟩,q⟩
 ·obtain ⟨n,hn⟩:∃ n,s.size=n+4:=⟨s.size-4,by omega⟩
  obtain ⟨T,hT⟩:∃ T,s.extract 0 n=T:=⟨_,rfl⟩
  obtain ⟨R,hR⟩:∃ R,s.extract n (n+4)=R:=⟨_,rfl⟩
  have hsR:s=T++R:=by
   rw [←hT,←hR,ByteArray.extract_append_extract]
   simp [←hn]
  have hTs:T.size=n:=by rw [←hT];simp;omega
  have hU:=unseal_long s T R n (by omega) hn hT hR w hTab
  by_cases hc:R.data.toList=M.le4 (M.sum T.data.toList)
  ·have hse:sealText T.data.toList=s:=(sealed_of T R hc).trans hsR.symm
   refine (parse_open s T (by omega) w (hU.mono ?_)).mono ?_
   ·rintro e w' ⟨rfl,q⟩
    refine ⟨?_,⟨q⟩⟩
    unfold opened
    rw [if_pos hc]
   ·rintro e w' ⟨hp,q⟩
    exact ⟨Or.inr (Or.inr ⟨T,hse,hp⟩),q⟩
  ·refine (parse_refused s ⟨#[]⟩ 3 (by decide) w (hU.mono ?_)).mono ?_
   ·rintro e w' ⟨rfl,q⟩
    refine ⟨?_,⟨q⟩⟩
    unfold opened
    rw [if_neg hc]
   ·rintro e w' ⟨rfl,q⟩
    refine ⟨Or.inr (Or.inl ⟨by omega,?_,rfl⟩),q⟩
    intro t ht
    have h1:M.sealed t=T.data.toList++R.data.toList:=by
     have:=congrArg (fun x:ByteArray=>x.data.toList) (ht.trans hsR)
     simpa [sealText] using this
    have hRs:R.data.toList.length=4:=by
     have:R.size=4:=by rw [←hR];simp;omega
     exact Array.length_toList.trans this
    have hl:=congrArg List.length h1
    rw [M.sealed_length,List.length_append,hRs] at hl
    unfold M.sealed at h1
    obtain ⟨e1,e2⟩:=List.append_inj h1 (by omega)
    rw [←e1] at hc
    exact hc e2.symm
def BlkSaid (s:ByteArray) (w:World) (e:Ending) (w':World):Prop:=
 (∃ (rs:List Rec) (T:List UInt8) (ao:Option Addr) (cap base:Nat),rs≠[]∧plainText rs=some T∧sealText T=s∧e=.returned (.tuple #[.slice ao rs.length cap,.int .i64 0])∧w.heap.size≤base∧w'.ownsRow base 62 4 (.slice ao rs.length cap) rs.length (recCells rs))
 ∨ (e=.returned (.tuple #[.slice none 0 0,.int .i64 3])∧∀ rs T,rs≠[]→plainText rs=some T→sealText T≠s)
theorem layBlock (wm:Int) (bl:ByteArray) (hb:bl.size≤1048576) (es:List S.Ent) (ao:Option Addr) (cap:Nat) (i:Nat) (en:S.Ent) (he:es[i]?=some en) (hlo:en.lo≤en.hi) (hhi:en.hi≤bl.size) (_hl:es.length≤1048576) (w:World) (hE:EntsAt w ao es) (hT:Tab w) :
  Calls Tryz.prog 63 #[layVal wm bl ao es.length cap,.int .i64 (i:Int)] w fun e w'=>BlkSaid (bl.extract en.lo en.hi) w e w'∧Q w w':=by
 have hi:i<es.length:=(List.getElem?_eq_some_iff.1 he).1
 have PA:Hid _:=fun W (q:Q w W)=>parse_any (bl.extract en.lo en.hi) (by simp;omega) W (tab_kept hT q)
 rcases hE with hnil|⟨g,rfl,hg,hc⟩
 ·rw [hnil] at hi;simp at hi
 obtain ⟨c0,c1,c2,c3⟩:=hc i en he
 have k0:=kept_cell c0 ((Q.refl w).alloc #[.int .i64 wm,.string bl,.slice (some ⟨g,0,none⟩) es.length cap] 124)
 have k1:=kept_cell c1 ((Q.refl w).alloc #[.int .i64 wm,.string bl,.slice (some ⟨g,0,none⟩) es.length cap] 124)
 have k2:=kept_cell c2 ((Q.refl w).alloc #[.int .i64 wm,.string bl,.slice (some ⟨g,0,none⟩) es.length cap] 124)
 have k3:=kept_cell c3 ((Q.refl w).alloc #[.int .i64 wm,.string bl,.slice (some ⟨g,0,none⟩) es.length cap] 124)
 have hiI:(i:Int)<(es.length:Int):=by omega
 have b1:(en.lo:Int)≤(en.hi:Int):=by omega
 have b2:(en.hi:Int)≤(bl.size:Int):=by omega
 unfold layVal
 generalize hs:bl.extract en.lo en.hi=s at *
 clear hc he c0 c1 c2 c3
 go_enter Tryz.func63,Tryz.ntmps63
 go_wp2_with fail
 refine (PA.out _ (((Q.refl w).alloc _ _).alloc _ _)).mono ?_
 rintro e w1 ⟨hP,q1⟩
 have q1':Q w w1:=(((Q.refl w).alloc _ _).alloc _ _).trans q1
 have hsz:w.heap.size≤((w.alloc (.cells #[.int .i64 wm,.string bl,.slice (some ⟨g,0,none⟩) es.length cap] 124)).alloc (.cells #[.int .i64 (en.lo:Int),.int .i64 (en.hi:Int),.string en.key,.int .i64 (en.stamp:Int)] 168)).heap.size:=by simp;omega
 clear PA k0 k1 k2 k3 q1
 rcases hP with ⟨h4,rfl⟩|⟨h4,hno,rfl⟩|⟨T,hse,hP⟩
 ·have HN:Hid (∀ rs T,rs≠[]→plainText rs=some T→sealText T≠s):=fun rs T _ _ e=>by
   have:=congrArg ByteArray.size e
   have h2:(sealText T).size=(M.sealed T).length:=rfl
   rw [h2,M.sealed_length] at this
   omega
  go_wp2_with fail
  go_ret2
  exact ⟨Or.inr ⟨rfl,HN.out⟩,q1'⟩
 ·have HN:Hid (∀ rs T,rs≠[]→plainText rs=some T→sealText T≠s):=fun rs T _ _=>hno T
  clear hno
  go_wp2_with fail
  go_ret2
  exact ⟨Or.inr ⟨rfl,HN.out⟩,q1'⟩
 ·rcases hP with ⟨l,lo,lc,base,rfl,hpl,hbase,hown⟩|⟨rfl,hno⟩
  ·cases l with
   | nil =>
    have HN:Hid (∀ rs T',rs≠[]→plainText rs=some T'→sealText T'≠s):=fun rs T' hne hp e=>by
     have hTT:T'=T.data.toList:=sealText_inj (e.trans hse.symm)
     rw [hTT] at hp
     exact hne (plainText_inj hp hpl)
    clear hpl hown
    go_wp2_with fail
    go_ret2
    exact ⟨Or.inr ⟨rfl,HN.out⟩,q1'⟩
   | cons r l =>
    have HO:Hid _:=hown
    have HP2:Hid _:=hpl
    have hln:((r::l).length:Int)≠0:=by simp;omega
    have hlb:(((r::l).length:Int) == 0)=false:=by rw [beq_eq_false_iff_ne];exact hln
    generalize hrl:r::l=rl at *
    have hne:rl≠[]:=by rw [←hrl];simp
    have HNe:Hid (rl≠[]):=hne
    clear hown hpl hrl hne
    go_wp2_with fail
    go_ret2
    exact ⟨Or.inl ⟨rl,_,lo,lc,base,HNe.out,HP2.out,hse,rfl,Nat.le_trans hsz hbase,HO.out⟩,q1'⟩
  ·have HN:Hid (∀ rs T',rs≠[]→plainText rs=some T'→sealText T'≠s):=fun rs T' _ hp e=>by
    have hTT:T'=T.data.toList:=sealText_inj (e.trans hse.symm)
    rw [hTT] at hp
    exact hno rs hp
   clear hno
   go_wp2_with fail
   go_ret2
   exact ⟨Or.inr ⟨rfl,HN.out⟩,q1'⟩
theorem blkText_seal {b:List Rec} (h:S.OkB b):∃ T,plainText b=some T∧(sealText T).data.toList=S.blkText b:=by
 obtain ⟨T,hT⟩:=h.text
 refine ⟨T,hT,?_⟩
 unfold S.blkText sealText
 rw [hT]
 rfl
theorem blkSaid_ok {b:List Rec} (h:S.OkB b) {s:ByteArray} (hs:s.data.toList=S.blkText b) {w w':World} {e:Ending} (hB:BlkSaid s w e w') :
  ∃ ao cap base,e=.returned (.tuple #[.slice ao b.length cap,.int .i64 0])∧w.heap.size≤base∧w'.ownsRow base 62 4 (.slice ao b.length cap) b.length (recCells b):=by
 obtain ⟨T,hT,hse⟩:=blkText_seal h
 have hsT:sealText T=s:=by
  apply ByteArray.ext
  apply Array.toList_inj.1
  rw [hse,hs]
 rcases hB with ⟨rs,T',ao,cap,base,_,hp,hse',rfl,hb,ho⟩|⟨_,hno⟩
 ·have:T'=T:=sealText_inj (hse'.trans hsT.symm)
  subst this
  have:=plainText_inj hp hT
  subst this
  exact ⟨ao,cap,base,rfl,hb,ho⟩
 ·exact absurd hsT (hno b T h.some_ hT)
end Go.Proofs.YtekdenkllipehabGreatDoor
