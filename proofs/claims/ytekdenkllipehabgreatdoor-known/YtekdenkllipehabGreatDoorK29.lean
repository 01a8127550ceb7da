import Derived.Test.YtekdenkllipehabGreatDoorK14
import Derived.Test.YtekdenkllipehabGreatDoorK26
set_option maxRecDepth 100000
set_option maxHeartbeats 8000000
namespace Go.Proofs.YtekdenkllipehabGreatDoor
open Go.RowKit
def theAp:S.Ap:=fun c b=>(applied (M.parse c.data.toList) b.data.toList).map fun l=>⟨l.toArray⟩
theorem theAp_diff {b t C:ByteArray} (h:DiffOf b t C):theAp C b=some t:=by
 obtain ⟨acc,_,_,h1,h2,h3⟩:=h
 unfold theAp applied
 rw [h1]
 have hl:b.data.toList.length=b.size:=by simp
 simp only [hl]
 rw [if_neg (by omega),h3,Option.map_some]
theorem appliedEnd_ap (c b:ByteArray) (s:ByteArray) (h:theAp c b=some s):appliedEnd (applied (M.parse c.data.toList) b.data.toList)=.returned (.tuple #[.string s,.int .i64 0]):=by
 unfold theAp at h
 cases ha:applied (M.parse c.data.toList) b.data.toList with
 | none=>rw [ha] at h;cases h
 | some l =>
  rw [ha,Option.map_some] at h
  injection h with h
  rw [←h]
  rfl
theorem value_yes (r:Rec) (newer s:ByteArray) (hb:r.body.size≤140737488351232) (hn:newer.size≤140737488351232) (hk:r.kind=0∨r.kind=1∨r.kind=2) (h:S.valOf theAp r newer=some s) (w:World) :
  Calls Tryz.prog 89 #[r.val,.string newer] w fun e w'=>e=.returned (.tuple #[.string s,.int .i64 0])∧Q w w':=by
 obtain ⟨key,stamp,kind,body⟩:=r
 unfold Rec.val
 simp only at *
 unfold S.valOf at h
 simp only at h
 rcases hk with rfl|rfl|rfl
 ·rw [if_pos rfl] at h
  split at h
  ·injection h with h
   subst h
   go_enter Tryz.func89,Tryz.ntmps89
   go_wp2_with fail
   go_ret2
   exact ⟨rfl,(Q.refl w).alloc _ _⟩
  ·cases h
 ·have HA:Hid _:=fun W=>apply_any body newer hb hn W
  rw [if_neg (by decide),if_neg (by decide)] at h
  cases ha:theAp body newer with
  | none=>rw [ha] at h;cases h
  | some t =>
   rw [ha] at h
   simp only at h
   split at h
   ·injection h with h
    subst h
    rw [appliedEnd_ap _ _ _ ha] at HA
    clear ha
    go_enter Tryz.func89,Tryz.ntmps89
    go_wp2_with fail
    refine (HA.out _).mono ?_
    rintro e w1 ⟨rfl,q1⟩
    go_wp2_with fail
    go_ret2
    exact ⟨rfl,((Q.refl w).alloc _ _).trans q1⟩
   ·cases h
 ·rw [if_neg (by decide),if_pos rfl] at h
  split at h
  ·injection h with h
   subst h
   go_enter Tryz.func89,Tryz.ntmps89
   go_wp2_with fail
   go_ret2
   exact ⟨rfl,(Q.refl w).alloc _ _⟩
  ·cases h
def wholeOf (r:Rec) (s:ByteArray):Rec:=if r.kind=1 then ⟨r.key,r.stamp,0,s⟩ else r
theorem whole_any (r:Rec) (s:ByteArray) (hk:r.kind=0∨r.kind=1∨r.kind=2) (w:World) :
  Calls Tryz.prog 92 #[r.val,.string s] w fun e w'=>e=.returned (wholeOf r s).val∧Q w w':=by
 obtain ⟨key,stamp,kind,body⟩:=r
 unfold Rec.val wholeOf
 simp only at *
 rcases hk with rfl|rfl|rfl
 ·go_enter Tryz.func92,Tryz.ntmps92
  go_wp2_with fail
  refine bodyPost_ret (v:=.agg #[.string key,.int .i64 stamp,.int .i64 0,.string body]) (by simp [results,Tryz.results92,go_sem]) rfl ?_
  exact ⟨rfl,((Q.refl w).alloc _ _).alloc _ _⟩
 ·go_enter Tryz.func92,Tryz.ntmps92
  go_wp2_with fail
  refine bodyPost_ret (v:=.agg #[.string key,.int .i64 stamp,.int .i64 0,.string s]) (by simp [results,Tryz.results92,go_sem]) rfl ?_
  exact ⟨rfl,((Q.refl w).alloc _ _).alloc _ _⟩
 ·go_enter Tryz.func92,Tryz.ntmps92
  go_wp2_with fail
  refine bodyPost_ret (v:=.agg #[.string key,.int .i64 stamp,.int .i64 2,.string body]) (by simp [results,Tryz.results92,go_sem]) rfl ?_
  exact ⟨rfl,((Q.refl w).alloc _ _).alloc _ _⟩
def ChangedTo (r:Rec) (newer:ByteArray) (r':Rec):Prop:=r'=r∨(r.kind=0∧∃ c:ByteArray,r'=⟨r.key,r.stamp,1,c⟩∧DiffOf newer r.body c∧c.size<r.body.size)
theorem changed_any (r:Rec) (newer:ByteArray) (hk:r.kind=0∨r.kind=1∨r.kind=2) (hn:newer.size≤4096) (hb:r.kind=0→r.body.size≤4096) (w:World) :
  Calls Tryz.prog 91 #[r.val,.string newer] w fun e w'=>(∃ r',e=.returned r'.val∧ChangedTo r newer r')∧Q w w':=by
 obtain ⟨key,stamp,kind,body⟩:=r
 unfold Rec.val
 simp only at *
 rcases hk with rfl|rfl|rfl
 ·have HD:Hid _:=fun W=>diff_any newer body hn (hb rfl) W
  have HB:Hid (body.size≤4096):=hb rfl
  clear hb
  go_enter Tryz.func91,Tryz.ntmps91
  go_wp2_with fail
  refine (HD.out _).mono ?_
  rintro e w1 ⟨c,hdiff,rfl,q1⟩
  have HDi:Hid _:=hdiff
  have hV:=(varN_new w [.string key,.int .i64 stamp,.int .i64 0,.string body] 62)
  have hV1:=(hV.kept ((Q.refl _).alloc #[.string ⟨#[]⟩,.int .i64 0,.int .i64 0,.string ⟨#[]⟩] 62)).kept q1
  have hR:=(varN_new (w.alloc (.cells #[.string key,.int .i64 stamp,.int .i64 0,.string body] 62)) [.string ⟨#[]⟩,.int .i64 0,.int .i64 0,.string ⟨#[]⟩] 62).kept q1
  rw [World.size_alloc] at hR
  have q1':Q w w1:=(((Q.refl w).alloc _ _).alloc _ _).trans q1
  have a0:=hV1.cell 0 rfl
  have a1:=hV1.cell 1 rfl
  have a2:=hV1.cell 2 rfl
  have a3:=hV1.cell 3 rfl
  have f2:=hV1.free 2 rfl
  have f3:=hV1.free 3 rfl
  have b0:=hR.cell 0 rfl
  have b1:=hR.cell 1 rfl
  have b2:=hR.cell 2 rfl
  have b3:=hR.cell 3 rfl
  have g0:=hR.free 0 rfl
  have g1:=hR.free 1 rfl
  have g2:=hR.free 2 rfl
  have g3:=hR.free 3 rfl
  by_cases hlt:c.size<body.size
  ·have hltI:(c.size:Int)<(body.size:Int):=by omega
   have hd:decide ((c.size:Int)<(body.size:Int))=true:=by simpa using hlt
   have hVs:=(hV1.set 2 (.int .i64 1)).set 3 (.string c)
   have hRo:=(hR.other (by omega:w.heap.size+1≠w.heap.size) 2 (.int .i64 1)).other (by omega:w.heap.size+1≠w.heap.size) 3 (.string c)
   have hRs:=(((hRo.set 0 (.string key)).set 1 (.int .i64 stamp)).set 2 (.int .i64 1)).set 3 (.string c)
   have c0:=hVs.cell 0 rfl
   have c1:=hVs.cell 1 rfl
   have c2:=hVs.cell 2 rfl
   have c3:=hVs.cell 3 rfl
   have m0:=hRs.cell 0 rfl
   have m1:=hRs.cell 1 rfl
   have m2:=hRs.cell 2 rfl
   have m3:=hRs.cell 3 rfl
   have hq:=(((((q1'.setCell (p:=⟨w.heap.size,2,none⟩) (Nat.le_refl _) (.int .i64 1)).setCell (p:=⟨w.heap.size,3,none⟩) (Nat.le_refl _) (.string c)).setCell (p:=⟨w.heap.size+1,0,none⟩) (Nat.le_succ _) (.string key)).setCell (p:=⟨w.heap.size+1,1,none⟩) (Nat.le_succ _) (.int .i64 stamp)).setCell (p:=⟨w.heap.size+1,2,none⟩) (Nat.le_succ _) (.int .i64 1)).setCell (p:=⟨w.heap.size+1,3,none⟩) (Nat.le_succ _) (.string c)
   clear hV hV1 hR q1 q1' hVs hRo hRs hdiff HD
   go_wp2_with fail
   refine bodyPost_ret (v:=.agg #[.string key,.int .i64 stamp,.int .i64 1,.string c]) (by simp [results,Tryz.results91,go_sem,m0,m1,m2,m3]) rfl ?_
   exact ⟨⟨⟨key,stamp,1,c⟩,rfl,Or.inr ⟨rfl,c,rfl,HDi.out,hlt⟩⟩,hq⟩
  ·have hltI:¬(c.size:Int)<(body.size:Int):=by omega
   have hd:decide ((c.size:Int)<(body.size:Int))=false:=by simpa using hlt
   have hRs:=(((hR.set 0 (.string key)).set 1 (.int .i64 stamp)).set 2 (.int .i64 0)).set 3 (.string body)
   have m0:=hRs.cell 0 rfl
   have m1:=hRs.cell 1 rfl
   have m2:=hRs.cell 2 rfl
   have m3:=hRs.cell 3 rfl
   have hq:=(((q1'.setCell (p:=⟨w.heap.size+1,0,none⟩) (Nat.le_succ _) (.string key)).setCell (p:=⟨w.heap.size+1,1,none⟩) (Nat.le_succ _) (.int .i64 stamp)).setCell (p:=⟨w.heap.size+1,2,none⟩) (Nat.le_succ _) (.int .i64 0)).setCell (p:=⟨w.heap.size+1,3,none⟩) (Nat.le_succ _) (.string body)
   clear hV hV1 hR q1 q1' hRs hdiff HD
   go_wp2_with fail
   refine bodyPost_ret (v:=.agg #[.string key,.int .i64 stamp,.int .i64 0,.string body]) (by simp [results,Tryz.results91,go_sem,m0,m1,m2,m3]) rfl ?_
   exact ⟨⟨⟨key,stamp,0,body⟩,rfl,Or.inl rfl⟩,hq⟩
 ·go_enter Tryz.func91,Tryz.ntmps91
  go_wp2_with fail
  refine bodyPost_ret (v:=.agg #[.string key,.int .i64 stamp,.int .i64 1,.string body]) (by simp [results,Tryz.results91,go_sem]) rfl ?_
  exact ⟨⟨⟨key,stamp,1,body⟩,rfl,Or.inl rfl⟩,((Q.refl w).alloc _ _).alloc _ _⟩
 ·go_enter Tryz.func91,Tryz.ntmps91
  go_wp2_with fail
  refine bodyPost_ret (v:=.agg #[.string key,.int .i64 stamp,.int .i64 2,.string body]) (by simp [results,Tryz.results91,go_sem]) rfl ?_
  exact ⟨⟨⟨key,stamp,2,body⟩,rfl,Or.inl rfl⟩,((Q.refl w).alloc _ _).alloc _ _⟩
theorem all_any (v:Value) (w:World):Calls Tryz.prog 55 #[v] w fun e w'=>e=.returned v∧w'=w:=by
 go_enter Tryz.func55,Tryz.ntmps55
 go_wp2_with fail
 go_ret
 exact ⟨rfl,rfl⟩
def needR (wm:Int):List Rec→Nat
 | []=>0
 | r::l=>if wm<r.stamp then needR wm l+1 else if r.kind=2 then 0 else 1
theorem needR_le (wm:Int):∀ l:List Rec,needR wm l≤l.length
 | []=>Nat.le_refl _
 | r::l=>by
  have:=needR_le wm l
  simp only [needR,List.length_cons]
  split
  ·omega
  ·split<;>omega
theorem needR_drop {wm:Int}:∀ {l:List Rec} {k:Nat},(∀ (i:Nat) (r:Rec),i<k→l[i]?=some r→wm<r.stamp)→k≤l.length→needR wm l=k+needR wm (l.drop k)
 | l,0,_,_=>by simp
 | [],k+1,_,h=>by simp at h
 | r::l,k+1,h,hk=>by
  have h0:=h 0 r (by omega) rfl
  rw [List.drop_succ_cons]
  simp only [needR,h0,if_true]
  rw [needR_drop (l:=l) (k:=k) (fun i x hi hx=>h (i+1) x (by omega) (by simpa using hx)) (by simpa using hk)]
  omega
theorem needed_any (rs:List Rec) (hl:rs.length≤140737488351232) (wm:Int) (ao:Option Addr) (cap:Nat) (w:World) (h:Rcs w ao rs) (hc:rs.length≤cap) :
  Calls Tryz.prog 34 #[.slice ao rs.length cap,.int .i64 wm] w fun e w'=>e=.returned (.slice ao (needR wm rs) cap)∧Q w w':=by
 have HH:Hid (Rcs w ao rs):=h
 have HN:Hid (∀ k:Nat,(∀ (i:Nat) (r:Rec),i<k→rs[i]?=some r→wm<r.stamp)→k≤rs.length→needR wm rs=k+needR wm (rs.drop k)):=fun k h1 h2=>needR_drop h1 h2
 go_enter Tryz.func34,Tryz.ntmps34
 go_wp2_with fail
 go_loopw [9] (fun t wr=>∃ k:Nat,t=.int .i64 (k:Int)∧k≤rs.length∧Hid (∀ (i:Nat) (r:Rec),i<k→rs[i]?=some r→wm<r.stamp)∧Q w wr) (fun t _=>rs.length-(intOf t).toNat)
 case atStart=>exact ⟨0,rfl,Nat.zero_le _,(fun i r hi _=>by omega:∀ (i:Nat) (r:Rec),i<0→rs[i]?=some r→wm<r.stamp),Q.refl w⟩
 case round =>
  obtain ⟨k,rfl,hk,hbef,hq⟩:=hrel
  by_cases hlt:k<rs.length
  ·obtain ⟨b,off,rfl,hbw,hR⟩:=(HH.out.kept hq).at hlt
   obtain ⟨r,hr⟩:∃ r,rs[k]?=some r:=⟨_,List.getElem?_eq_getElem hlt⟩
   obtain ⟨c0,c1,c2,c3⟩:=hR k r hr
   have hltI:(k:Int)<(rs.length:Int):=by omega
   by_cases hs:wm<r.stamp
   ·have HB2:Hid (∀ (i:Nat) (x:Rec),i<k+1→rs[i]?=some x→wm<x.stamp):=fun i x hi hx=>by
     by_cases e:i=k
     ·subst e
      rw [hr] at hx
      injection hx with hx
      rw [←hx]
      exact hs
     ·exact hbef.out i x (by omega) hx
    clear hR hr
    go_wp2_with fail
    go_roundw
    case rel=>exact ⟨k+1,by go_num,by omega,HB2,hq.alloc _ _⟩
    case measure=>simp [intOf];omega
   ·have hsI:¬wm<r.stamp:=hs
    have hdr:rs.drop k=r::rs.drop (k+1):=by
     rw [List.drop_eq_getElem_cons hlt]
     congr 1
     rw [List.getElem?_eq_getElem hlt] at hr
     injection hr
    have HE:=HN.out k hbef.out hk
    rw [hdr] at HE
    simp only [needR,hs,if_false] at HE
    by_cases hg:r.kind=2
    ·rw [if_pos hg,Nat.add_zero] at HE
     have HE2:Hid (needR wm rs=k):=HE
     have hgb:(r.kind == 2)=true:=by simp [hg]
     have hkc:(k:Int)≤(cap:Int):=by omega
     clear HE hdr hR hr
     go_wp2_with fail
     go_ret
     exact ⟨by rw [HE2.out];rfl,hq.alloc _ _⟩
    ·rw [if_neg hg] at HE
     have HE2:Hid (needR wm rs=k+1):=HE
     have hgb:(r.kind == 2)=false:=by rw [beq_eq_false_iff_ne];exact hg
     have hkc:(k:Int)+1≤(cap:Int):=by omega
     clear HE hdr hR hr
     go_wp2_with fail
     go_ret
     exact ⟨by rw [HE2.out];rfl,hq.alloc _ _⟩
  ·obtain rfl:k=rs.length:=by omega
   have HE:=HN.out rs.length hbef.out (Nat.le_refl _)
   rw [List.drop_length] at HE
   simp only [needR,Nat.add_zero] at HE
   have HE2:Hid (needR wm rs=rs.length):=HE
   clear HE
   go_wp2_with fail
   go_ret
   exact ⟨by rw [HE2.out];rfl,hq⟩
def toldEnd (o:Option S.Vs):Ending:=.returned (.tuple #[.string (S.told o).1,.bool (S.told o).2,.int .i64 0])
theorem run_snoc {ap:S.Ap} {n e s:ByteArray} {R:List Rec} {V:List S.Vs} {r:Rec} (h:S.run ap n R=some (V,e)) (hv:S.valOf ap r e=some s):S.run ap n (R++[r])=some (V++[S.verOf r s],s):=by
 rw [S.run_append,h]
 simp only [S.run_one hv]
theorem firstAt_more {V U:List S.Vs} {v:S.Vs} {t:Int} (hV:∀ u∈V,t<u.stamp) (hv:v.stamp≤t):S.firstAt (V++v::U) t=some v:=by
 rw [S.firstAt_append,S.firstAt_none hV]
 simp [S.firstAt,hv]
theorem valueAt_any (rs:List Rec) (hl:rs.length≤140737488351232) (hk:∀ r∈rs,r.fits=true) (key:ByteArray) (t:Int) (V:List S.Vs) (e0:ByteArray) (hT:S.run theAp ⟨#[]⟩ (S.ofKey key rs)=some (V,e0)) (ao:Option Addr) (cap:Nat) (w:World) (h:Rcs w ao rs) :
  Calls Tryz.prog 106 #[.slice ao rs.length cap,.string key,.int .i64 t] w fun e w'=>e=toldEnd (S.firstAt V t)∧Q w w':=by
 have HH:Hid (Rcs w ao rs):=h
 have HT:Hid (S.run theAp ⟨#[]⟩ (S.ofKey key rs)=some (V,e0)):=hT
 have HK:Hid (∀ r∈rs,r.fits=true):=hk
 clear h hT hk
 go_enter Tryz.func106,Tryz.ntmps106
 go_wp2_with fail
 go_loopw [9,16] (fun tn ti wr=>∃ (k:Nat) (newer:ByteArray),tn=.string newer∧ti=.int .i64 (k:Int)∧k≤rs.length∧newer.size≤4096∧Hid (∃ U,S.run theAp ⟨#[]⟩ (S.ofKey key (rs.take k))=some (U,newer)∧∀ u∈U,t<u.stamp)∧Q w wr) (fun _ ti _=>rs.length-(intOf ti).toNat)
 case atStart=>exact ⟨0,⟨#[]⟩,rfl,rfl,Nat.zero_le _,Nat.zero_le _,(⟨[],by simp [S.ofKey,S.run],by simp⟩:∃ U,S.run theAp ⟨#[]⟩ (S.ofKey key (rs.take 0))=some (U,⟨#[]⟩)∧∀ u∈U,t<u.stamp),Q.refl w⟩
 case round =>
  obtain ⟨k,newer,rfl,rfl,hk,hnz,hU,hq⟩:=hrel
  by_cases hlt:k<rs.length
  ·obtain ⟨b,off,rfl,hbw,hR⟩:=(HH.out.kept hq).at hlt
   obtain ⟨r,hr⟩:∃ r,rs[k]?=some r:=⟨_,List.getElem?_eq_getElem hlt⟩
   obtain ⟨c0,c1,c2,c3⟩:=hR k r hr
   have hltI:(k:Int)<(rs.length:Int):=by omega
   have htk:rs.take (k+1)=rs.take k++[r]:=by rw [List.take_add_one,hr];rfl
   by_cases hkey:r.key=key
   ·have hkb:(r.key.toList == key.toList)=true:=by rw [hkey];simp
    have hof:S.ofKey key (rs.take (k+1))=S.ofKey key (rs.take k)++[r]:=by rw [htk,S.ofKey_append,S.ofKey_all (R:=[r]) (fun x hx=>by simp at hx;rw [hx,hkey])]
    obtain ⟨U,hU1,hU2⟩:=hU.out
    have hsp:S.ofKey key rs=S.ofKey key (rs.take k)++r::S.ofKey key (rs.drop (k+1)):=by
     have e1:rs=rs.take (k+1)++rs.drop (k+1):=(List.take_append_drop _ _).symm
     have e2:=congrArg (S.ofKey key) e1
     rw [S.ofKey_append,hof] at e2
     rw [e2]
     simp
    have hrun:=HT.out
    rw [hsp,S.run_append,hU1] at hrun
    simp only [S.run] at hrun
    cases hval:S.valOf theAp r newer with
    | none=>rw [hval] at hrun;cases hrun
    | some s =>
     rw [hval] at hrun
     simp only at hrun
     cases hrest:S.run theAp s (S.ofKey key (rs.drop (k+1))) with
     | none=>rw [hrest] at hrun;cases hrun
     | some pr =>
      obtain ⟨l2,f2⟩:=pr
      rw [hrest] at hrun
      simp only [Option.some.injEq,Prod.mk.injEq] at hrun
      have hVe:=hrun.1
      have hfit:=HK.out r (List.mem_of_getElem? hr)
      simp only [Rec.fits,decide_eq_true_eq] at hfit
      have hkd:r.kind=0∨r.kind=1∨r.kind=2:=by omega
      have hss:s.size≤4096:=by
       have h1:=S.valOf_size hval
       rcases hkd with h|h|h
       ·unfold S.valOf at hval;rw [if_pos h] at hval;split at hval
        ·injection hval with hval;rw [←hval];assumption
        ·cases hval
       ·unfold S.verOf S.Vs.size at h1;simp [h] at h1;omega
       ·unfold S.valOf at hval;rw [if_neg (by omega),if_pos h] at hval;split at hval
        ·injection hval with hval;rw [←hval];exact hnz
        ·cases hval
      have VA:Hid _:=fun W=>value_yes r newer s (by omega) (by omega) hkd hval W
      unfold Rec.val at VA
      by_cases hst:t<r.stamp
      ·have HU2:Hid (∃ U,S.run theAp ⟨#[]⟩ (S.ofKey key (rs.take (k+1)))=some (U,s)∧∀ u∈U,t<u.stamp):=⟨U++[S.verOf r s],by rw [hof];exact run_snoc hU1 hval,fun u hu=>by
        rw [List.mem_append] at hu
        rcases hu with hu|hu
        ·exact hU2 u hu
        ·simp only [List.mem_singleton] at hu;subst hu;exact hst⟩
       clear hR hr htk hof hU hsp hval hrest hVe hkd hfit hU1 hU2 hrun hkey
       go_wp2_with fail
       refine (VA.out _).mono ?_
       rintro e w1 ⟨rfl,q1⟩
       have hV1:=(varN_new wr [.string r.key,.int .i64 r.stamp,.int .i64 r.kind,.string r.body] 62).kept q1
       have k1:=hV1.cell 1 rfl
       have hq1:=(hq.alloc _ _).trans q1
       clear hV1 q1 VA
       go_wp2_with fail
       go_roundw
       case rel=>exact ⟨k+1,s,rfl,by go_num,by omega,hss,HU2,hq1⟩
       case measure=>simp [intOf];omega
      ·have hst2:r.stamp≤t:=by omega
       have HF:Hid (S.firstAt V t=some (S.verOf r s)):=by rw [←hVe];exact firstAt_more hU2 hst2
       by_cases hg:r.kind=2
       ·have hgb:(r.kind == 2)=true:=by simp [hg]
        have HF2:Hid (toldEnd (S.firstAt V t)=.returned (.tuple #[.string ⟨#[]⟩,.bool false,.int .i64 0])):=by rw [HF.out];unfold toldEnd S.verOf;rw [if_pos hg];exact rfl
        clear hR hr htk hof hU hsp hval hrest hVe hkd hfit hU1 hU2 hrun HF hkey hg
        go_wp2_with fail
        refine (VA.out _).mono ?_
        rintro e w1 ⟨rfl,q1⟩
        have hV1:=(varN_new wr [.string r.key,.int .i64 r.stamp,.int .i64 r.kind,.string r.body] 62).kept q1
        have k1:=hV1.cell 1 rfl
        have k2:=hV1.cell 2 rfl
        have hq1:=(hq.alloc _ _).trans q1
        clear hV1 q1 VA
        go_wp2_with fail
        refine bodyPost_ret (v:=.tuple #[.string ⟨#[]⟩,.bool false,.int .i64 0]) (by simp [results,Tryz.results106,go_sem]) rfl ?_
        exact ⟨HF2.out.symm,hq1⟩
       ·have hgb:(r.kind == 2)=false:=by rw [beq_eq_false_iff_ne];exact hg
        have HF2:Hid (toldEnd (S.firstAt V t)=.returned (.tuple #[.string s,.bool true,.int .i64 0])):=by rw [HF.out];unfold toldEnd S.verOf;rw [if_neg hg];exact rfl
        clear hR hr htk hof hU hsp hval hrest hVe hkd hfit hU1 hU2 hrun HF hkey hg
        go_wp2_with fail
        refine (VA.out _).mono ?_
        rintro e w1 ⟨rfl,q1⟩
        have hV1:=(varN_new wr [.string r.key,.int .i64 r.stamp,.int .i64 r.kind,.string r.body] 62).kept q1
        have k1:=hV1.cell 1 rfl
        have k2:=hV1.cell 2 rfl
        have hq1:=(hq.alloc _ _).trans q1
        clear hV1 q1 VA
        go_wp2_with fail
        refine bodyPost_ret (v:=.tuple #[.string s,.bool true,.int .i64 0]) (by simp [results,Tryz.results106,go_sem]) rfl ?_
        exact ⟨HF2.out.symm,hq1⟩
   ·have hkb:(r.key.toList == key.toList)=false:=by
     rw [beq_eq_false_iff_ne]
     intro e
     exact hkey (M.bytes_ext e)
    have HU2:Hid (∃ U,S.run theAp ⟨#[]⟩ (S.ofKey key (rs.take (k+1)))=some (U,newer)∧∀ u∈U,t<u.stamp):=by
     have:S.ofKey key (rs.take (k+1))=S.ofKey key (rs.take k):=by rw [htk,S.ofKey_append,S.ofKey_none (R:=[r]) (fun x hx=>by simp at hx;rw [hx];exact hkey),List.append_nil]
     rw [this]
     exact hU.out
    clear hR hr htk hU
    go_wp2_with fail
    go_roundw
    case rel=>exact ⟨k+1,newer,rfl,by go_num,by omega,hnz,HU2,hq.alloc _ _⟩
    case measure=>simp [intOf];omega
  ·obtain rfl:k=rs.length:=by omega
   have HF2:Hid (toldEnd (S.firstAt V t)=.returned (.tuple #[.string ⟨#[]⟩,.bool false,.int .i64 0])):=by
    obtain ⟨U,hU1,hU2⟩:=hU.out
    rw [List.take_length,HT.out] at hU1
    injection hU1 with hU1
    injection hU1 with hU1 _
    rw [hU1,S.firstAt_none hU2]
    exact rfl
   clear hU
   go_wp2_with fail
   refine bodyPost_ret (v:=.tuple #[.string ⟨#[]⟩,.bool false,.int .i64 0]) (by simp [results,Tryz.results106,go_sem]) rfl ?_
   exact ⟨HF2.out.symm,hq⟩
end Go.Proofs.YtekdenkllipehabGreatDoor
namespace Go.Proofs.YtekdenkllipehabGreatDoor.S
open Go.RowKit
theorem needs_told {wm t:Int} (ht:wm≤t):∀ V:List Vs,told (firstAt (V.take (needs wm V)) t)=told (firstAt V t)
 | []=>rfl
 | v::l=>by
  have ih:=needs_told ht l
  unfold firstAt at ih ⊢
  by_cases h1:wm<v.stamp
  ·have e:needs wm (v::l)=needs wm l+1:=by simp [needs,h1]
   rw [e,List.take_succ_cons]
   by_cases h2:v.stamp≤t
   ·rw [List.find?_cons_of_pos (by simpa using h2),List.find?_cons_of_pos (by simpa using h2)]
   ·rw [List.find?_cons_of_neg (by simpa using h2),List.find?_cons_of_neg (by simpa using h2)]
    exact ih
  ·have h2:v.stamp≤t:=by omega
   rw [List.find?_cons_of_pos (l:=l) (by simpa using h2)]
   by_cases h3:v.val=none
   ·have e:needs wm (v::l)=0:=by simp [needs,h1,h3]
    rw [e,List.take_zero]
    obtain ⟨s,x⟩:=v
    simp only at h3
    subst h3
    rfl
   ·have e:needs wm (v::l)=1:=by simp [needs,h1,h3]
    rw [e,List.take_succ_cons,List.find?_cons_of_pos (by simpa using h2)]
theorem needs_prefix {wm:Int}:∀ {V:List Vs} {n:Nat},needs wm V≤n→needs wm (V.take n)=needs wm V
 | [],n,_=>by simp
 | v::l,n,h=>by
  by_cases h1:wm<v.stamp
  ·have e:needs wm (v::l)=needs wm l+1:=by simp [needs,h1]
   rw [e] at h ⊢
   obtain ⟨m,rfl⟩:∃ m,n=m+1:=⟨n-1,by omega⟩
   rw [List.take_succ_cons]
   simp only [needs,h1,if_true]
   rw [needs_prefix (by omega)]
  ·by_cases h3:v.val=none
   ·have e:needs wm (v::l)=0:=by simp [needs,h1,h3]
    rw [e]
    cases n with
    | zero=>simp [needs]
    | succ n=>simp [needs,h1,h3]
   ·have e:needs wm (v::l)=1:=by simp [needs,h1,h3]
    rw [e] at h ⊢
    obtain ⟨m,rfl⟩:∃ m,n=m+1:=⟨n-1,by omega⟩
    simp [needs,h1,h3]
theorem needs_mono {a b:Int} (hab:a≤b):∀ {V:List Vs},V.Pairwise (fun x y=>y.stamp<x.stamp)→needs b V≤needs a V
 | [],_=>Nat.le_refl _
 | v::l,h=>by
  have hp:=List.pairwise_cons.1 h
  have ih:=needs_mono hab hp.2
  simp only [needs]
  by_cases h1:b<v.stamp
  ·have h2:a<v.stamp:=by omega
   rw [if_pos h1,if_pos h2]
   omega
  ·rw [if_neg h1]
   by_cases h2:a<v.stamp
   ·rw [if_pos h2]
    split<;>omega
   ·rw [if_neg h2]
    exact Nat.le_refl _
theorem needR_run {ap:Ap} {wm:Int}:∀ {R:List Rec} {n e:ByteArray} {V:List Vs},run ap n R=some (V,e)→needR wm R=needs wm V
 | [],n,e,V,h=>by
  simp only [run,Option.some.injEq,Prod.mk.injEq] at h
  rw [←h.1]
  rfl
 | r::R,n,e,V,h=>by
  simp only [run] at h
  cases hv:valOf ap r n with
  | none=>rw [hv] at h;cases h
  | some s =>
   rw [hv] at h
   simp only at h
   cases hr:run ap s R with
   | none=>rw [hr] at h;cases h
   | some p =>
    obtain ⟨l,f⟩:=p
    rw [hr] at h
    simp only [Option.some.injEq,Prod.mk.injEq] at h
    obtain ⟨rfl,_⟩:=h
    have ih:=needR_run (wm:=wm) hr
    have hvv:(verOf r s).val=if r.kind=2 then none else some s:=rfl
    simp only [needR,needs]
    by_cases h1:wm<r.stamp
    ·rw [if_pos h1,if_pos (show wm<(verOf r s).stamp from h1),ih]
    ·rw [if_neg h1,if_neg (show ¬wm<(verOf r s).stamp from h1),hvv]
     by_cases h2:r.kind=2
     ·simp [h2]
     ·simp [h2]
def entParts (b:List Rec):List ByteArray:=[⟨(M.enc 7 (blkText b).length).toArray⟩,⟨(M.enc 7 (lastRec b).key.size).toArray⟩,(lastRec b).key,⟨(M.enc 7 (lastRec b).stamp.toNat).toArray⟩]
def ixsOf (bs:List (List Rec)):List ByteArray:=(bs.map entParts).flatten
theorem ixsOf_snoc (bs:List (List Rec)) (b:List Rec):ixsOf (bs++[b])=ixsOf bs++entParts b:=by simp [ixsOf]
theorem ixsOf_length:∀ bs:List (List Rec),(ixsOf bs).length=4*bs.length
 | []=>rfl
 | b::bs=>by
  have:=ixsOf_length bs
  simp only [ixsOf,List.map_cons,List.flatten_cons,List.length_append,List.length_cons] at this ⊢
  rw [this]
  simp [entParts]
  omega
theorem cat_append (A B:List ByteArray):M.cat (A++B)=M.cat A++M.cat B:=by simp [M.cat]
theorem cat_entParts (b:List Rec):M.cat (entParts b)=entText b:=by simp [M.cat,entParts,entText]
theorem cat_ixsOf:∀ bs:List (List Rec),M.cat (ixsOf bs)=idxOf bs
 | []=>rfl
 | b::bs=>by
  have h1:ixsOf (b::bs)=entParts b++ixsOf bs:=by simp [ixsOf]
  have h2:idxOf (b::bs)=entText b++idxOf bs:=by simp [idxOf]
  rw [h1,h2,cat_append,cat_entParts,cat_ixsOf bs]
def dat (bs:List (List Rec)):Option (List UInt8):=if bs=[] then none else some (blkOf bs)
theorem dat_getD (bs:List (List Rec)):(dat bs).getD []=blkOf bs:=by
 unfold dat
 split
 ·rename_i h;subst h;rfl
 ·rfl
theorem dat_snoc (bs:List (List Rec)) (b:List Rec):dat (bs++[b])=some ((dat bs).getD []++blkText b):=by
 rw [dat_getD]
 unfold dat
 rw [if_neg (by simp),blkOf_append,blkOf_one]
def Full (T0:Two) (V:Con):Prop:=∃ R:List Rec,R.Pairwise Bef∧(∀ r∈R,∃ v∈V r.key,v.stamp=r.stamp∧r.body.size≤v.size)∧T0.cap<len T0.a+18+costs R
theorem tells_mem {ap:Ap} {R:List Rec} {V:List Vs} (h:Tells ap R V) {r:Rec} (hr:r∈R):∃ v∈V,v.stamp=r.stamp∧r.body.size≤v.size:=by
 obtain ⟨e,he⟩:=h ⟨#[]⟩
 obtain ⟨i,hi⟩:=List.mem_iff_getElem?.1 hr
 have hl:=h.length
 have hil:i<V.length:=by rw [hl];exact (List.getElem?_eq_some_iff.1 hi).1
 have hv:V[i]?=some V[i]:=List.getElem?_eq_getElem hil
 refine ⟨V[i],List.getElem_mem hil,?_,(run_sizes he i r _ hi hv).1⟩
 have hs:=congrArg (fun l=>l[i]?) h.stamps
 simp only [List.getElem?_map,hv,hi,Option.map_some,Option.some.injEq] at hs
 exact hs
theorem Wri.mem {ap:Ap} {bs:List (List Rec)} {o:List Rec} {C:Con} (h:Wri ap bs o C) {r:Rec} (hr:r∈(bs++[o]).flatten):∃ v∈C r.key,v.stamp=r.stamp∧r.body.size≤v.size:=
 tells_mem (h.holds r.key).tells (mem_ofKey.2 ⟨hr,rfl⟩)
theorem Wri.oks {ap:Ap} {bs:List (List Rec)} {o:List Rec} {C:Con} (h:Wri ap bs o C) (ho:o≠[]):∀ b∈bs++[o],OkB b:=fun b hb=>(h.cut ho).fil.ok b hb
theorem blkText_four {b:List Rec}:4≤(blkText b).length:=by
 unfold blkText
 rw [M.sealed_length]
 omega
theorem blkOf_lots:∀ bs:List (List Rec),4*bs.length≤(blkOf bs).length
 | []=>by simp
 | b::bs=>by
  have h1:=blkOf_lots bs
  have h2:=blkText_four (b:=b)
  have e1:blkOf (b::bs)=blkText b++blkOf bs:=by simp [blkOf]
  rw [e1]
  simp only [List.length_cons,List.length_append]
  omega
theorem entText_few {b:List Rec} (h:OkB b):(entText b).length≤74:=by
 have hm:=lastRec_mem h.some_
 have hf:=h.fits _ hm
 simp only [Rec.fits,decide_eq_true_eq] at hf
 have h1:=blkText_le h
 have h2:=inBlk_sum h.fits
 have h3:=h.few
 have e1:=enc_le 7 2 (blkText b).length (by have:(128:Nat) ^ (2+1)=2097152:=(by decide);omega)
 have e2:=enc_le 7 0 (lastRec b).key.size (by omega)
 have e3:=enc_le 7 5 (lastRec b).stamp.toNat (by have:(128:Nat) ^ (5+1)=4398046511104:=(by decide);omega)
 have e4:(lastRec b).key.data.toList.length=(lastRec b).key.size:=by simp
 unfold entText
 simp only [List.length_append]
 omega
theorem idxOf_few:∀ {bs:List (List Rec)},(∀ b∈bs,OkB b)→(idxOf bs).length≤74*bs.length
 | [],_=>by simp [idxOf]
 | b::bs,h=>by
  have h1:=entText_few (h b (by simp))
  have h2:=idxOf_few (bs:=bs) (fun x hx=>h x (by simp [hx]))
  have e2:idxOf (b::bs)=entText b++idxOf bs:=by simp [idxOf]
  rw [e2]
  simp only [List.length_cons,List.length_append]
  omega
theorem Wri.full {ap:Ap} {bs:List (List Rec)} {o:List Rec} {C V:Con} {T0:Two} (h:Wri ap bs o C) (ho:o≠[]) (hC:∀ k,∀ v∈C k,v∈V k) (hT:T0.cap<len T0.a+(blkOf bs).length+(blkText o).length):Full T0 V:=by
 refine ⟨(bs++[o]).flatten,h.ord,fun r hr=>?_,?_⟩
 ·obtain ⟨v,h1,h2⟩:=h.mem hr
  exact ⟨v,hC _ v h1,h2⟩
 ·have h1:=blocks_le (h.oks ho)
  rw [blkOf_append,blkOf_one,List.length_append] at h1
  omega
theorem Wri.fullEnd {ap:Ap} {bs:List (List Rec)} {C V:Con} {T0:Two} {wm:Int} (h:Wri ap bs [] C) (hw:wm≤1099511627776) (hC:∀ k,∀ v∈C k,v∈V k) (hb:(blkOf bs).length≤1048576) (hT:T0.cap<len T0.a+(blkOf bs).length+(endOf (idxText bs wm)).length):Full T0 V:=by
 have hf:=h.fil
 have hfl:(bs++[([]:List Rec)]).flatten=bs.flatten:=by simp
 refine ⟨bs.flatten,hf.ord,fun r hr=>?_,?_⟩
 ·obtain ⟨v,h1,h2⟩:=h.mem (r:=r) (by rw [hfl];exact hr)
  exact ⟨v,hC _ v h1,h2⟩
 ·have h1:=blocks_le hf.ok
  have h2:=blkOf_lots bs
  have h3:=idxOf_few hf.ok
  have h4:=endOf_le (bs:=bs) (wm:=wm) hw (by omega)
  omega
theorem wrote_changed {newer s:ByteArray} {r r':Rec} (hf:r.fits=true) (hv:valOf theAp r newer=some s) (h:ChangedTo r newer r'):Wrote theAp true newer r s r':=by
 rcases h with rfl|⟨h0,c,rfl,hd,hc⟩
 ·exact ⟨rfl,rfl,Iff.rfl,hf,fun _=>hv,fun e=>(by cases e),fun e=>(by cases e)⟩
 ·have hs:r.body.size≤4096∧s=r.body:=by
   unfold valOf at hv
   rw [if_pos h0] at hv
   split at hv
   ·injection hv with hv
    exact ⟨by assumption,hv.symm⟩
   ·cases hv
  obtain ⟨hs1,rfl⟩:=hs
  refine ⟨rfl,rfl,?_,?_,fun _=>?_,fun e=>(by cases e),fun e=>(by cases e)⟩
  ·constructor
   ·intro e;exact absurd e (by simp)
   ·intro e;omega
  ·simp only [Rec.fits,decide_eq_true_eq] at hf ⊢
   omega
  ·unfold valOf
   simp only
   rw [if_neg (by omega),if_neg (by omega),theAp_diff hd]
   simp only
   rw [if_pos ⟨by omega,hs1⟩]
theorem wrote_whole {newer s:ByteArray} {r:Rec} (hf:r.fits=true) (hk:r.kind=0∨r.kind=1∨r.kind=2) (hv:valOf theAp r newer=some s):Wrote theAp false newer r s (wholeOf r s):=by
 have hz:=valOf_size hv
 unfold wholeOf
 rcases hk with h0|h1|h2
 ·rw [if_neg (by omega)]
  refine ⟨rfl,rfl,Iff.rfl,hf,fun e=>(by cases e),fun _ _ n=>?_,fun _ e=>by omega⟩
  unfold valOf at hv ⊢
  rw [if_pos h0] at hv ⊢
  exact hv
 ·rw [if_pos h1]
  have hz2:s.size≤4096:=by
   unfold Vs.size verOf at hz
   rw [if_neg (by omega)] at hz
   exact hz.2
  refine ⟨rfl,rfl,?_,?_,fun e=>(by cases e),fun _ _ n=>?_,fun _ e=>by omega⟩
  ·constructor
   ·intro e;exact absurd e (by simp)
   ·intro e;omega
  ·simp only [Rec.fits,decide_eq_true_eq] at hf ⊢
   omega
  ·unfold valOf
   simp only
   rw [if_pos trivial,if_pos hz2]
 ·rw [if_neg (by omega)]
  refine ⟨rfl,rfl,Iff.rfl,hf,fun e=>(by cases e),fun _ e=>absurd h2 e,fun _ _ n=>?_⟩
  unfold valOf at hv ⊢
  rw [if_neg (by omega),if_pos h2] at hv ⊢
  split at hv
  ·rw [if_pos (by assumption)]
  ·cases hv
theorem Based.cut {ap:Ap} (k newer:ByteArray):Based ap [] k false newer:=Based.none newer (fun _ h=>by simp at h)
theorem take_snoc {α:Type} {l:List α} {i:Nat} {x:α} (h:l[i]?=some x):l.take (i+1)=l.take i++[x]:=by rw [List.take_add_one,h];rfl
theorem Con.put_put (C:Con) (k:ByteArray) (V U:List Vs):(C.put k V).put k U=C.put k U:=by
 funext x
 unfold Con.put
 split<;>rfl
theorem Con.put_self (C:Con) (k:ByteArray):C.put k (C k)=C:=by
 funext x
 unfold Con.put
 split
 ·rename_i h;rw [h]
 ·rfl
theorem Con.put_at (C:Con) (k:ByteArray) (V:List Vs):(C.put k V) k=V:=by simp [Con.put]
theorem run_at {ap:Ap} {n e:ByteArray} {R:List Rec} {V:List Vs} (h:run ap n R=some (V,e)) {i:Nat} {r:Rec} (hr:R[i]?=some r) {f:ByteArray} (hf:run ap n (R.take i)=some (V.take i,f)):∃ s,valOf ap r f=some s∧V[i]?=some (verOf r s)∧run ap n (R.take (i+1))=some (V.take (i+1),s):=by
 obtain ⟨g,hg⟩:=run_take (i+1) h
 have hg':=hg
 rw [take_snoc hr,run_append,hf] at hg
 simp only at hg
 simp only [run] at hg
 cases hv:valOf ap r f with
 | none=>rw [hv] at hg;simp at hg
 | some s =>
  rw [hv] at hg
  simp only [Option.some.injEq,Prod.mk.injEq] at hg
  obtain ⟨h1,h2⟩:=hg
  subst h2
  refine ⟨s,rfl,?_,hg'⟩
  have hl:(V.take i).length=i:=by
   have:=run_stamps hf
   have h3:=congrArg List.length this
   simp only [List.length_map] at h3
   rw [h3,List.length_take]
   have:=(List.getElem?_eq_some_iff.1 hr).1
   omega
  have h4:(V.take (i+1))[i]?=some (verOf r s):=by
   rw [←h1,List.getElem?_append_right (by omega),hl]
   simp
  rw [List.getElem?_take] at h4
  simpa using h4
end Go.Proofs.YtekdenkllipehabGreatDoor.S
