import Derived.Test.YtekdenkllipehabGreatDoorK08
import Derived.Test.YtekdenkllipehabGreatDoorK11
import Derived.Test.YtekdenkllipehabGreatDoorK13
import Derived.Shelf.Spec.SearchS
set_option maxRecDepth 100000
set_option maxHeartbeats 8000000
namespace Go.Proofs.YtekdenkllipehabGreatDoor
open Go.RowKit
def cutRet:Option (List UInt8 × List UInt8)→Ending
 | none=>.returned (.tuple #[.string ⟨#[]⟩,.string ⟨#[]⟩,.int .i64 3])
 | some (a,b)=>.returned (.tuple #[.string ⟨a.toArray⟩,.string ⟨b.toArray⟩,.int .i64 0])
theorem cut_out (s:ByteArray) (_hs:s.size≤1048576) (n:Int) (h:n<0∨(s.size:Int)<n) (w:World) :
  Calls Tryz.prog 95 #[.string s,.int .i64 n] w fun e w'=>e=cutRet none∧Q w w':=by
 unfold cutRet
 by_cases h0:n<0
 ·go_enter Tryz.func95,Tryz.ntmps95
  go_wp2_with fail
  refine bodyPost_ret (v:=.tuple #[.string ⟨#[]⟩,.string ⟨#[]⟩,.int .i64 3]) (by simp [results,Tryz.results95,go_sem]) rfl ?_
  exact ⟨rfl,Q.refl w⟩
 ·have h1:(s.size:Int)<n:=by omega
  go_enter Tryz.func95,Tryz.ntmps95
  go_wp2_with fail
  refine bodyPost_ret (v:=.tuple #[.string ⟨#[]⟩,.string ⟨#[]⟩,.int .i64 3]) (by simp [results,Tryz.results95,go_sem]) rfl ?_
  exact ⟨rfl,Q.refl w⟩
theorem cut_no (s:ByteArray) (hs:s.size≤1048576) (n:Nat) (h:n≤s.size) (u:ByteArray) (x:Int) (hx:x≠0) (w:World)
  (hU:Calls Tryz.prog 131 #[.string (s.extract (s.size-n) s.size)] w fun e w'=>e=.returned (.tuple #[.string u,.int .i64 x])∧Q w w') :
  Calls Tryz.prog 95 #[.string s,.int .i64 (n:Int)] w fun e w'=>e=cutRet none∧Q w w':=by
 unfold cutRet
 obtain ⟨a,ha⟩:∃ a,s.size-n=a:=⟨_,rfl⟩
 rw [ha] at hU
 have HU:Hid _:=fun (_:Unit)=>hU
 have h1:¬(s.size:Int)<(n:Int):=by omega
 have h2:(s.size:Int)-(n:Int)=(a:Int):=by omega
 have h3:(a:Int)≤(s.size:Int):=by omega
 have h4:(n:Int)≤(s.size:Int):=by omega
 clear hU ha
 go_enter Tryz.func95,Tryz.ntmps95
 go_wp2_with fail
 refine (HU.out ()).mono ?_
 rintro e w1 ⟨rfl,q1⟩
 go_wp2_with fail
 refine bodyPost_ret (v:=.tuple #[.string ⟨#[]⟩,.string ⟨#[]⟩,.int .i64 3]) (by simp [results,Tryz.results95,go_sem]) rfl ?_
 exact ⟨rfl,q1⟩
theorem cut_yes (s:ByteArray) (hs:s.size≤1048576) (n:Nat) (h:n≤s.size) (u:ByteArray) (w:World)
  (hU:Calls Tryz.prog 131 #[.string (s.extract (s.size-n) s.size)] w fun e w'=>e=.returned (.tuple #[.string u,.int .i64 0])∧Q w w') :
  Calls Tryz.prog 95 #[.string s,.int .i64 (n:Int)] w fun e w'=>e=.returned (.tuple #[.string (s.extract 0 (s.size-n)),.string u,.int .i64 0])∧Q w w':=by
 obtain ⟨a,ha⟩:∃ a,s.size-n=a:=⟨_,rfl⟩
 rw [ha] at hU ⊢
 have HU:Hid _:=fun (_:Unit)=>hU
 have h1:¬(s.size:Int)<(n:Int):=by omega
 have h2:(s.size:Int)-(n:Int)=(a:Int):=by omega
 have h3:(a:Int)≤(s.size:Int):=by omega
 have h4:(n:Int)≤(s.size:Int):=by omega
 clear hU ha
 go_enter Tryz.func95,Tryz.ntmps95
 go_wp2_with fail
 refine (HU.out ()).mono ?_
 rintro e w1 ⟨rfl,q1⟩
 go_wp2_with fail
 refine bodyPost_ret (v:=.tuple #[.string (s.extract 0 a),.string u,.int .i64 0]) (by simp [results,Tryz.results95,go_sem]) rfl ?_
 exact ⟨rfl,q1⟩
theorem bytes_of (a:ByteArray) (l:List UInt8) (h:a.data.toList=l):a=⟨l.toArray⟩:=by
 apply ByteArray.ext
 apply Array.toList_inj.1
 simpa using h
theorem cut_any (s:ByteArray) (hs:s.size≤1048576) (n:Int) (w:World) (hT:Tab w) :
  Calls Tryz.prog 95 #[.string s,.int .i64 n] w fun e w'=>e=cutRet (S.cutEnd s.data.toList n)∧Q w w':=by
 have hl:s.data.toList.length=s.size:=by simp
 unfold S.cutEnd
 by_cases h:n<0∨(s.size:Int)<n
 ·rw [if_pos (by rcases h with h | h;exact Or.inl (by omega);exact Or.inr (by omega))]
  exact cut_out s hs n h w
 ·obtain ⟨m,rfl⟩:=Int.eq_ofNat_of_zero_le (show 0≤n by omega)
  have hm:m≤s.size:=by omega
  have hez:(s.extract (s.size-m) s.size).size=m:=by simp;omega
  by_cases h4:m<4
  ·rw [if_pos (Or.inl (by omega))]
   refine cut_no s hs m hm ⟨#[]⟩ 2 (by decide) w ((unseal_short _ (by omega) w).mono ?_)
   rintro e w' ⟨rfl,rfl⟩
   exact ⟨rfl,Q.refl _⟩
  ·rw [if_neg (by omega),Int.toNat_natCast,hl]
   obtain ⟨k,rfl⟩:∃ k,m=k+4:=⟨m-4,by omega⟩
   have hU:=unseal_long (s.extract (s.size-(k+4)) s.size) _ _ k (by omega) hez rfl rfl w hT
   have eT:((s.extract (s.size-(k+4)) s.size).extract 0 k).data.toList=(s.data.toList.drop (s.size-(k+4))).take (k+4-4):=by
    simp only [ByteArray.data_extract,Array.toList_extract,List.extract_eq_take_drop,Nat.sub_zero,List.drop_zero]
    rw [List.take_take,Nat.add_sub_cancel]
    congr 1
    omega
   have eR:((s.extract (s.size-(k+4)) s.size).extract k (k+4)).data.toList=s.data.toList.drop (s.size-4):=by
    simp only [ByteArray.data_extract,Array.toList_extract,List.extract_eq_take_drop]
    rw [List.drop_take,List.drop_drop,List.take_take,List.take_of_length_le (by rw [List.length_drop,hl];omega)]
    congr 1
    omega
   unfold opened at hU
   rw [eR,eT] at hU
   by_cases hc:s.data.toList.drop (s.size-4)=M.le4 (M.sum ((s.data.toList.drop (s.size-(k+4))).take (k+4-4)))
   ·rw [if_pos hc] at hU ⊢
    refine (cut_yes s hs (k+4) hm ((s.extract (s.size-(k+4)) s.size).extract 0 k) w (hU.mono ?_)).mono ?_
    ·rintro e w' ⟨rfl,b⟩
     exact ⟨rfl,⟨b⟩⟩
    ·rintro e w' ⟨rfl,q⟩
     refine ⟨?_,q⟩
     unfold cutRet
     simp only
     rw [bytes_of _ _ eT,bytes_of (s.extract 0 (s.size-(k+4))) (s.data.toList.take (s.size-(k+4))) (by simp)]
   ·rw [if_neg hc] at hU ⊢
    refine cut_no s hs (k+4) hm ⟨#[]⟩ 3 (by decide) w (hU.mono ?_)
    rintro e w' ⟨rfl,b⟩
    exact ⟨rfl,⟨b⟩⟩
end Go.Proofs.YtekdenkllipehabGreatDoor
namespace Go.Proofs.YtekdenkllipehabGreatDoor
open Go.Shelf
def laysBs_ren:Go.Shelf.Ren:=⟨fun | 26=>78 | 33=>107 | 34=>108 | 38=>145 | n=>n,fun | 0=>0 | 3=>3 | 4=>4 | 9=>9 | 24=>63 | 40=>177 | n=>n,fun n=>n⟩
theorem laysBs:Lays2.n26 Tryz.prog laysBs_ren:={
 mixed:=by kernel_rfl
 f26:=Tryz.func78.trans (congrArg some (by kernel_rfl))
 f33:=Tryz.func107.trans (congrArg some (by kernel_rfl))
 f34:=Tryz.func108.trans (congrArg some (by kernel_rfl))
 f38:=Tryz.func145.trans (congrArg some (by kernel_rfl))
 t0:=Tryz.underlying0
 a0:=Tryz.isAgg0
 z0:=Tryz.sizeOf0
 v0:=Tryz.zeroValue0
 t3:=Tryz.underlying3
 a3:=Tryz.isAgg3
 z3:=Tryz.sizeOf3
 v3:=Tryz.zeroValue3
 t4:=Tryz.underlying4
 a4:=Tryz.isAgg4
 z4:=Tryz.sizeOf4
 v4:=Tryz.zeroValue4
 t9:=Tryz.underlying9
 a9:=Tryz.isAgg9
 z9:=Tryz.sizeOf9
 v9:=Tryz.zeroValue9
 t24:=Tryz.underlying63
 a24:=Tryz.isAgg63
 z24:=Tryz.sizeOf63
 v24:=Tryz.zeroValue63
 t40:=Tryz.underlying177
 a40:=Tryz.isAgg177
 z40:=Tryz.sizeOf177
 v40:=Tryz.zeroValue177 }
end Go.Proofs.YtekdenkllipehabGreatDoor
