import Derived.Test.YtekdenkllipehabGreatDoorK06
import Derived.Test.YtekdenkllipehabGreatDoorK12
import Derived.Lib.Walk
import Derived.Lib.BufferWrite
import Derived.Lib.UnsafeStr
import Derived.Deep.RegionWith
import Derived.Deep.QuietTactic
import Derived.BigQuiet
set_option maxRecDepth 100000
set_option maxHeartbeats 8000000
namespace Go.Proofs.YtekdenkllipehabGreatDoor
open Go.RowKit
theorem cloneBody_any (s:ByteArray) (w:World) (hlim:s.size≤281474976710656) :
  Calls Tryz.prog 76 #[.string s] w fun e w'=>e=.returned (.string s)∧Below w.heap.size w w':=by
 by_cases h0:s.size=0
 ·have hs:s=⟨#[]⟩:=by
   apply ByteArray.ext
   exact Array.eq_empty_of_size_eq_zero h0
  subst hs
  go_enter Tryz.func76,Tryz.ntmps76
  go_wp2
  go_ret
  exact ⟨rfl,Below.refl _ _⟩
 ·obtain ⟨i0,hi,hz0,hz1,hz2⟩:=info_parts infoByte
  have hinfo:(Tryz.prog.info? 5).map (·.size)=some 1:=by rw [hi];simp [hz1]
  have hco:Tryz.prog.cellsOf 5=1:=by simp [Program.cellsOf,hi,hz1]
  obtain ⟨M,hM⟩:∃ M,M=madeCells (Value.int .u8 0).cells (((s.size:Nat):Int).toNat*i0.size):=⟨_,rfl⟩
  have hMs:M.size=s.size:=by rw [hM,size_madeCells,hz1];simp
  have hmk:∀ W:World,(Instr.makeSlice 88 (.int .i64 (s.size:Int)) (.int .i64 (s.size:Int))).run Tryz.prog W=.ok (.slice (some ⟨W.heap.size,0,none⟩) s.size s.size) (W.alloc (.cells M 5)):=fun W=>by
   have h:=run_make (P:=Tryz.prog) W 88 5 i0 (.int .u8 0) Tryz.underlying88 hi hz0 .i64 .i64 (s.size:Int) (s.size:Int) (by omega) (by omega) (by rw [hz2];omega) (by omega)
   rw [←hM] at h
   simpa using h
  clear hM
  have hcp:=Lib.run_copy_row_string (P:=Tryz.prog) (w.alloc (.cells M 5)) 88 9 3 5 w.heap.size 0 s.size s.size s M 5 Tryz.underlying88 hinfo (heap_alloc_new w _) (Nat.le_refl _) (by omega)
  obtain ⟨Y,hY⟩:∃ Y,Y=(M.toList.take 0++Lib.byteCells s.data.toList++M.toList.drop (0+s.size)).toArray:=⟨_,rfl⟩
  rw [←hY] at hcp
  have hYl:Y.toList=Lib.byteCells s.data.toList:=by
   rw [hY,List.toList_toArray,List.take_zero,List.nil_append,List.drop_of_length_le (by rw [Array.length_toList];omega),List.append_nil]
  have hYs:Y.size=s.size:=by rw [←Array.length_toList,hYl,Lib.byteCells_length,←Lib.size_eq]
  have hgY:((w.alloc (.cells M 5)).setRow w.heap.size Y).heap[w.heap.size]?=some (.cells Y 5 (0,0)):=setRow_heap _ _ M _ 5 (0,0) (heap_alloc_new w _)
  have hne:s.data.toList≠[]:=fun e=>h0 (by rw [Lib.size_eq,e];rfl)
  have hUS:=Lib.run_unsafeString_row (P:=Tryz.prog) ((w.alloc (.cells M 5)).setRow w.heap.size Y) 176 3 9 5 Tryz.underlying176 hco w.heap.size Y.size (by unfold World.shape?;rw [hgY]) s.data.toList hne (by rw [←Lib.size_eq];omega) (by rw [←Lib.size_eq];omega)
   (fun j x hx=>Lib.cells_of_row hgY Y.size j _ (by rw [List.take_of_length_le (by rw [Array.length_toList];exact Nat.le_refl _),hYl];simp [Lib.byteCells,hx]))
  rw [←Lib.size_eq] at hUS
  clear hY
  go_enter Tryz.func76,Tryz.ntmps76
  go_wp2
  go_ret
  have hb1:Below w.heap.size w (w.alloc (.cells M 5)):=(Below.refl _ w).alloc (Nat.le_refl _) _
  have hb2:Below w.heap.size (w.alloc (.cells M 5)) ((w.alloc (.cells M 5)).setRow w.heap.size Y):=⟨rfl,rfl,rfl,by simp,fun k hk=>setRow_other _ _ _ _ (by omega)⟩
  exact ⟨rfl,Lib.below_freeze (hb1.trans hb2) (p:=⟨w.heap.size,0,none⟩) (Nat.le_refl _) _⟩
theorem clone_any (s:ByteArray) (w:World) (hlim:s.size≤281474976710656) :
  Calls Tryz.prog 47 #[.string s] w fun e w'=>e=.returned (.string s)∧Below w.heap.size w w':=by
 go_enter Tryz.func47,Tryz.ntmps47
 go_wp2_with fail
 refine (cloneBody_any s w hlim).mono ?_
 rintro e w1 ⟨rfl,hb⟩
 go_wp2_with fail
 go_ret
 exact ⟨rfl,hb⟩
theorem wireSeal_any (s:ByteArray) (hs:s.size≤281474976710656) (w:World) (hT:Tab w) :
  Calls Tryz.prog 128 #[.string s] w fun e w'=>e=.returned (.string ⟨(M.sealed s.data.toList).toArray⟩)∧Below w.heap.size w w':=by
 have E:Hid (s++⟨(M.le4 (M.sum s.data.toList)).toArray⟩=(⟨(M.sealed s.data.toList).toArray⟩:ByteArray)):=by
  show s++_=_
  unfold M.sealed
  rw [←ByteArray.mk_append_mk]
 have hl:(M.le4 (M.sum s.data.toList)).length=4:=rfl
 have hsl:=seal_any s hs w hT
 generalize M.le4 (M.sum s.data.toList)=q at *
 generalize M.sealed s.data.toList=r at *
 have HS:Hid _:=hsl
 clear hsl
 go_enter Tryz.func128,Tryz.ntmps128
 go_wp2_with fail
 refine Calls.mono HS.out ?_
 rintro e w1 ⟨rfl,hb⟩
 go_wp2_with fail
 go_ret
 exact ⟨congrArg (fun x=>Ending.returned (.string x)) E.out,hb⟩
theorem unseal_short (s:ByteArray) (hs:s.size<4) (w:World) :
  Calls Tryz.prog 131 #[.string s] w fun e w'=>e=.returned (.tuple #[.string ⟨#[]⟩,.int .i64 2])∧w'=w:=by
 go_enter Tryz.func131,Tryz.ntmps131
 go_wp2_with fail
 go_ret2
 exact ⟨rfl,rfl⟩
theorem below_undrew {B:Nat} {w w1:World} (h:Below B w.drew w1):Below B w w1:=⟨h.os,h.tape,h.output,h.size,h.block⟩
theorem unseal_yes (s T R:ByteArray) (n:Nat) (hs:n≤281474976710656) (hsz:s.size=n+4) (h1:s.extract 0 n=T) (h2:s.extract n (n+4)=R) (w:World) (hT:Tab w)
  (hc:R.data.toList=M.le4 (M.sum T.data.toList)) :
  Calls Tryz.prog 131 #[.string s] w fun e w'=>e=.returned (.tuple #[.string T,.int .i64 0])∧Below w.heap.size w w':=by
 have hTn:T.size=n:=by rw [←h1];simp;omega
 have hsl:=fun w hT=>seal_any T (by omega) w hT
 have hcl:=fun w=>clone_any T w (by omega)
 have hbq:(R.toList == M.le4 (M.sum T.data.toList))=true:=by rw [ByteArray.toList_eq,hc];simp
 generalize M.le4 (M.sum T.data.toList)=q at *
 have HS:Hid _:=hsl
 have HC:Hid _:=hcl
 clear hsl hcl hTn hc
 go_enter Tryz.func131,Tryz.ntmps131
 go_wp2_with fail
 go_region_with (go_at_call 161;refine (HS.out _ ?_).mono ?_;exact hT;rintro e w1 ⟨rfl,hb⟩)
 all_goals
  have hb1:=below_undrew hb
  clear hb
  go_wp2_with fail
  refine (HC.out _).mono ?_
  rintro e w2 ⟨rfl,hb2⟩
  go_wp2_with fail
  go_ret2
  exact ⟨rfl,hb1.trans (hb2.mono hb1.size)⟩
theorem unseal_no (s T R:ByteArray) (n:Nat) (hs:n≤281474976710656) (hsz:s.size=n+4) (h1:s.extract 0 n=T) (h2:s.extract n (n+4)=R) (w:World) (hT:Tab w)
  (hc:¬R.data.toList=M.le4 (M.sum T.data.toList)) :
  Calls Tryz.prog 131 #[.string s] w fun e w'=>e=.returned (.tuple #[.string ⟨#[]⟩,.int .i64 3])∧Below w.heap.size w w':=by
 have hTn:T.size=n:=by rw [←h1];simp;omega
 have hsl:=fun w hT=>seal_any T (by omega) w hT
 have hbq:(R.toList == M.le4 (M.sum T.data.toList))=false:=by rw [ByteArray.toList_eq,beq_eq_false_iff_ne];exact hc
 generalize M.le4 (M.sum T.data.toList)=q at *
 have HS:Hid _:=hsl
 clear hsl hTn hc
 go_enter Tryz.func131,Tryz.ntmps131
 go_wp2_with fail
 go_region_with (go_at_call 161;refine (HS.out _ ?_).mono ?_;exact hT;rintro e w1 ⟨rfl,hb⟩)
 all_goals
  have hb1:=below_undrew hb
  clear hb
  go_wp2_with fail
  go_ret2
  exact ⟨rfl,hb1⟩
theorem unseal_long (s T R:ByteArray) (n:Nat) (hs:n≤281474976710656) (hsz:s.size=n+4) (h1:s.extract 0 n=T) (h2:s.extract n (n+4)=R) (w:World) (hT:Tab w) :
  Calls Tryz.prog 131 #[.string s] w fun e w'=>e=opened T R∧Below w.heap.size w w':=by
 unfold opened
 split
 ·rename_i hc
  exact unseal_yes s T R n hs hsz h1 h2 w hT hc
 ·rename_i hc
  exact unseal_no s T R n hs hsz h1 h2 w hT hc
theorem same_any (a b:ByteArray) (ha:a.size≤140737488351232) (hb:b.size≤140737488351232) (w:World) :
  Calls Tryz.prog 171 #[.string a,.string b] w fun e w'=>e=.returned (.int .i64 (common a.data.toList b.data.toList:Nat))∧Q w w':=by
 have IA:Hid _:=index_str a
 have IB:Hid _:=index_str b
 go_enter Tryz.func171,Tryz.ntmps171
 go_wp2_with fail
 go_loopw [5] (fun t wr=>∃ n:Nat,t=.int .i64 (n:Int)∧n≤a.size∧n≤b.size∧Hid (a.data.toList.take n=b.data.toList.take n)∧Q w wr) (fun t _=>a.size-(intOf t).toNat)
 case atStart=>exact ⟨0,rfl,Nat.zero_le _,Nat.zero_le _,(by simp:a.data.toList.take 0=b.data.toList.take 0),Q.refl w⟩
 case round =>
  obtain ⟨n,rfl,hna,hnb,htk,hq⟩:=hrel
  by_cases hba:b.size<a.size
  all_goals
   by_cases hlt:n<a.size∧n<b.size
   ·obtain ⟨h1,h2⟩:=hlt
    have xa:=IA.out n h1
    have xb:=IB.out n h2
    have hd:decide ((n:Int)<min (a.size:Int) (b.size:Int))=true:=by simp;omega
    have hd2:(n:Int)<min (a.size:Int) (b.size:Int):=by omega
    have hd3:decide ((n:Int)<if b.size<a.size then (b.size:Int) else (a.size:Int))=true:=by rw [decide_eq_true_eq];split<;>omega
    have hd4:(n:Int)<if b.size<a.size then (b.size:Int) else (a.size:Int):=by split<;>omega
    have la:a.data.toList[n]?=some a[n]:=by rw [List.getElem?_eq_getElem (by simpa using h1)];rfl
    have lb:b.data.toList[n]?=some b[n]:=by rw [List.getElem?_eq_getElem (by simpa using h2)];rfl
    by_cases heq:a[n]=b[n]
    ·have HT:Hid (a.data.toList.take (n+1)=b.data.toList.take (n+1)):=by
      have:=htk.out
      show _=_
      rw [List.take_add_one,List.take_add_one,this,la,lb,heq]
     have he:(((a[n]).toNat:Int) == ((b[n]).toNat:Int))=true:=by rw [heq];simp
     generalize (a[n]).toNat=x at *
     generalize (b[n]).toNat=y at *
     clear la lb heq
     go_wp2_with fail
     go_quiet (fail)
     go_wp2_with fail
     go_roundw
     case rel=>exact ⟨n+1,by go_num,by omega,by omega,HT,hq.drewN _⟩
     case measure=>simp [intOf];omega
    ·have he:(((a[n]).toNat:Int) == ((b[n]).toNat:Int))=false:=by
      rw [beq_eq_false_iff_ne]
      intro e
      exact heq (UInt8.toNat_inj.1 (by omega))
     have E:Hid (common a.data.toList b.data.toList=n):=common_stop (by simpa using hna) (by simpa using hnb) htk.out (Or.inr (Or.inr (by rw [la,lb];simpa using heq)))
     generalize (a[n]).toNat=x at *
     generalize (b[n]).toNat=y at *
     clear la lb heq
     go_wp2_with fail
     go_quiet (fail)
     go_wp2_with fail
     go_ret
     exact ⟨congrArg (fun n:Nat=>Ending.returned (.int .i64 (n:Int))) E.out.symm,hq.drewN _⟩
   ·have hd:decide ((n:Int)<min (a.size:Int) (b.size:Int))=false:=by simp;omega
    have hd3:decide ((n:Int)<if b.size<a.size then (b.size:Int) else (a.size:Int))=false:=by rw [decide_eq_false_iff_not];split<;>omega
    try have hd5:decide (n<b.size)=false:=by simp;omega
    try have hd6:decide (n<a.size)=false:=by simp;omega
    have E:Hid (common a.data.toList b.data.toList=n):=common_stop (by simpa using hna) (by simpa using hnb) htk.out (by simp;omega)
    go_wp2_with fail
    go_quiet (fail)
    go_wp2_with fail
    go_ret
    exact ⟨congrArg (fun n:Nat=>Ending.returned (.int .i64 (n:Int))) E.out.symm,hq.drewN _⟩
end Go.Proofs.YtekdenkllipehabGreatDoor
