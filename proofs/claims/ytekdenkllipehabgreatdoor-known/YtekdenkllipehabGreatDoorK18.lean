import Derived.Test.YtekdenkllipehabGreatDoorK16
import Derived.Shelf.Strings.Builder2
set_option maxRecDepth 100000
set_option maxHeartbeats 8000000
namespace Go.Proofs.YtekdenkllipehabGreatDoor
open Go.Shelf
def lays165_ren:Go.Shelf.Ren:=⟨fun | 165=>162 | 240=>190 | 241=>191 | 276=>200 | 277=>201 | n=>n,fun | 0=>0 | 3=>3 | 4=>4 | 5=>5 | 9=>9 | 20=>20 | 37=>88 | 70=>222 | 72=>224 | 164=>261 | n=>n,fun n=>n⟩
theorem lays165:Lays.n165 Tryz.prog lays165_ren:={
 mixed:=by kernel_rfl
 f165:=Tryz.func162.trans (congrArg some (by kernel_rfl))
 f240:=Tryz.func190.trans (congrArg some (by kernel_rfl))
 f241:=Tryz.func191.trans (congrArg some (by kernel_rfl))
 f276:=Tryz.func200.trans (congrArg some (by kernel_rfl))
 f277:=Tryz.func201.trans (congrArg some (by kernel_rfl))
 t0:=Tryz.underlying0
 a0:=Tryz.isAgg0
 z0:=Tryz.sizeOf0
 v0:=Tryz.zeroValue0
 t3:=Tryz.underlying3
 a3:=Tryz.isAgg3
 z3:=Tryz.sizeOf3
 v3:=Tryz.zeroValue3
 t4:=Tryz.underlying4
 a4:=Tryz.isAgg4
 z4:=Tryz.sizeOf4
 v4:=Tryz.zeroValue4
 t9:=Tryz.underlying9
 a9:=Tryz.isAgg9
 z9:=Tryz.sizeOf9
 v9:=Tryz.zeroValue9
 t20:=Tryz.underlying20
 a20:=Tryz.isAgg20
 z20:=Tryz.sizeOf20
 v20:=Tryz.zeroValue20
 t37:=Tryz.underlying88
 a37:=Tryz.isAgg88
 z37:=Tryz.sizeOf88
 v37:=Tryz.zeroValue88
 t70:=Tryz.underlying222
 a70:=Tryz.isAgg222
 z70:=Tryz.sizeOf222
 v70:=Tryz.zeroValue222
 t72:=Tryz.underlying224
 a72:=Tryz.isAgg224
 z72:=Tryz.sizeOf224
 v72:=Tryz.zeroValue224
 t164:=Tryz.underlying261
 a164:=Tryz.isAgg261
 z164:=Tryz.sizeOf261
 v164:=Tryz.zeroValue261 }
theorem extra165:Builder.Extra Tryz.prog lays165_ren:={
 sizeBuilder:=by kernel_rfl
 liesBuilder:=by kernel_rfl
 t5:=Tryz.underlying5
 a5:=Tryz.isAgg5
 z5:=Tryz.sizeOf5
 v5:=Tryz.zeroValue5
 infoByte:=by kernel_rfl
 cellsByte:=by kernel_rfl
 sizeByte:=by kernel_rfl
 neB5:=by decide }
def lays166_ren:Go.Shelf.Ren:=⟨fun | 166=>163 | 240=>190 | 276=>200 | n=>n,fun | 0=>0 | 3=>3 | 4=>4 | 5=>5 | 9=>9 | 20=>20 | 37=>88 | 70=>222 | 72=>224 | 75=>226 | 80=>229 | 164=>261 | n=>n,fun n=>n⟩
theorem lays166:Lays.n166 Tryz.prog lays166_ren:={
 mixed:=by kernel_rfl
 f166:=Tryz.func163.trans (congrArg some (by kernel_rfl))
 f240:=Tryz.func190.trans (congrArg some (by kernel_rfl))
 f276:=Tryz.func200.trans (congrArg some (by kernel_rfl))
 t0:=Tryz.underlying0
 a0:=Tryz.isAgg0
 z0:=Tryz.sizeOf0
 v0:=Tryz.zeroValue0
 t3:=Tryz.underlying3
 a3:=Tryz.isAgg3
 z3:=Tryz.sizeOf3
 v3:=Tryz.zeroValue3
 t4:=Tryz.underlying4
 a4:=Tryz.isAgg4
 z4:=Tryz.sizeOf4
 v4:=Tryz.zeroValue4
 t9:=Tryz.underlying9
 a9:=Tryz.isAgg9
 z9:=Tryz.sizeOf9
 v9:=Tryz.zeroValue9
 t20:=Tryz.underlying20
 a20:=Tryz.isAgg20
 z20:=Tryz.sizeOf20
 v20:=Tryz.zeroValue20
 t37:=Tryz.underlying88
 a37:=Tryz.isAgg88
 z37:=Tryz.sizeOf88
 v37:=Tryz.zeroValue88
 t70:=Tryz.underlying222
 a70:=Tryz.isAgg222
 z70:=Tryz.sizeOf222
 v70:=Tryz.zeroValue222
 t72:=Tryz.underlying224
 a72:=Tryz.isAgg224
 z72:=Tryz.sizeOf224
 v72:=Tryz.zeroValue224
 t75:=Tryz.underlying226
 a75:=Tryz.isAgg226
 z75:=Tryz.sizeOf226
 v75:=Tryz.zeroValue226
 t164:=Tryz.underlying261
 a164:=Tryz.isAgg261
 z164:=Tryz.sizeOf261
 v164:=Tryz.zeroValue261 }
theorem extra166:Builder.Extra Tryz.prog lays166_ren:={
 sizeBuilder:=by kernel_rfl
 liesBuilder:=by kernel_rfl
 t5:=Tryz.underlying5
 a5:=Tryz.isAgg5
 z5:=Tryz.sizeOf5
 v5:=Tryz.zeroValue5
 infoByte:=by kernel_rfl
 cellsByte:=by kernel_rfl
 sizeByte:=by kernel_rfl
 neB5:=by decide }
def lays169_ren:Go.Shelf.Ren:=⟨fun | 169=>164 | n=>n,fun | 0=>0 | 3=>3 | 5=>5 | 9=>9 | 37=>88 | 70=>222 | 72=>224 | 127=>176 | n=>n,fun n=>n⟩
theorem lays169:Lays.n169 Tryz.prog lays169_ren:={
 mixed:=by kernel_rfl
 f169:=Tryz.func164.trans (congrArg some (by kernel_rfl))
 t0:=Tryz.underlying0
 a0:=Tryz.isAgg0
 z0:=Tryz.sizeOf0
 v0:=Tryz.zeroValue0
 t3:=Tryz.underlying3
 a3:=Tryz.isAgg3
 z3:=Tryz.sizeOf3
 v3:=Tryz.zeroValue3
 t9:=Tryz.underlying9
 a9:=Tryz.isAgg9
 z9:=Tryz.sizeOf9
 v9:=Tryz.zeroValue9
 t37:=Tryz.underlying88
 a37:=Tryz.isAgg88
 z37:=Tryz.sizeOf88
 v37:=Tryz.zeroValue88
 t70:=Tryz.underlying222
 a70:=Tryz.isAgg222
 z70:=Tryz.sizeOf222
 v70:=Tryz.zeroValue222
 t72:=Tryz.underlying224
 a72:=Tryz.isAgg224
 z72:=Tryz.sizeOf224
 v72:=Tryz.zeroValue224
 t127:=Tryz.underlying176
 a127:=Tryz.isAgg176
 z127:=Tryz.sizeOf176
 v127:=Tryz.zeroValue176 }
theorem extra169:Builder.Extra Tryz.prog lays169_ren:={
 sizeBuilder:=by kernel_rfl
 liesBuilder:=by kernel_rfl
 t5:=Tryz.underlying5
 a5:=Tryz.isAgg5
 z5:=Tryz.sizeOf5
 v5:=Tryz.zeroValue5
 infoByte:=by kernel_rfl
 cellsByte:=by kernel_rfl
 sizeByte:=by kernel_rfl
 neB5:=by decide }
end Go.Proofs.YtekdenkllipehabGreatDoor
namespace Go.Proofs.YtekdenkllipehabGreatDoor
open Go.RowKit
namespace S
def Rising (ks:List ByteArray):Prop:=ks.Pairwise kless
def lowK (ks:List ByteArray) (k:ByteArray):Nat:=(ks.takeWhile fun x=>decide (kless x k)).length
theorem lowK_le (ks:List ByteArray) (k:ByteArray):lowK ks k≤ks.length:=(List.takeWhile_sublist _).length_le
theorem lowK_before:∀ {ks:List ByteArray} {k:ByteArray} {i:Nat} {x:ByteArray},ks[i]?=some x→i<lowK ks k→kless x k
 | y::ks,k,i,x,h,hi=>by
  unfold lowK at hi
  rw [List.takeWhile_cons] at hi
  split at hi
  ·rename_i hy
   cases i with
   | zero=>simp only [List.getElem?_cons_zero,Option.some.injEq] at h;subst h;simpa using hy
   | succ i=>exact lowK_before (ks:=ks) (k:=k) (i:=i) (by simpa using h) (by simp only [List.length_cons] at hi;unfold lowK;omega)
  ·simp at hi
theorem lowK_here:∀ {ks:List ByteArray} {k x:ByteArray},ks[lowK ks k]?=some x→¬kless x k
 | y::ks,k,x,h=>by
  unfold lowK at h
  rw [List.takeWhile_cons] at h
  split at h
  ·simp only [List.length_cons,List.getElem?_cons_succ] at h
   exact lowK_here h
  ·rename_i hy
   simp only [List.length_nil,List.getElem?_cons_zero,Option.some.injEq] at h
   subst h
   simpa using hy
theorem lowK_behind {ks:List ByteArray} (hs:Rising ks) {k x:ByteArray} {i:Nat} (hx:ks[i]?=some x) (hi:lowK ks k≤i):¬kless x k:=by
 intro hk
 have hlt:i<ks.length:=(List.getElem?_eq_some_iff.1 hx).1
 have hl:lowK ks k<ks.length:=by omega
 have hh:=lowK_here (ks:=ks) (k:=k) (List.getElem?_eq_getElem hl)
 rcases Nat.lt_or_ge (lowK ks k) i with h|h
 ·have:=List.pairwise_iff_getElem.1 hs (lowK ks k) i hl hlt h
  have hx':ks[i]=x:=(List.getElem?_eq_some_iff.1 hx).2
  rw [hx'] at this
  exact hh (kless_trans this hk)
 ·have:i=lowK ks k:=by omega
  subst this
  rw [List.getElem?_eq_getElem hl] at hx
  injection hx with hx
  rw [hx] at hh
  exact hh hk
theorem lowK_mem {ks:List ByteArray} (hs:Rising ks) {k:ByteArray} {i:Nat} (hx:ks[i]?=some k):lowK ks k=i:=by
 rcases Nat.lt_trichotomy (lowK ks k) i with h|h|h
 ·have hlt:i<ks.length:=(List.getElem?_eq_some_iff.1 hx).1
  have hl:lowK ks k<ks.length:=by omega
  have:=List.pairwise_iff_getElem.1 hs (lowK ks k) i hl hlt h
  rw [(List.getElem?_eq_some_iff.1 hx).2] at this
  exact absurd this (lowK_here (List.getElem?_eq_getElem hl))
 ·exact h
 ·exact absurd (lowK_before hx h) (kless_irrefl k)
theorem mem_lowK {ks:List ByteArray} (hs:Rising ks) {k:ByteArray}:k∈ks↔ks[lowK ks k]?=some k:=by
 constructor
 ·intro h
  obtain ⟨i,hi⟩:=List.getElem?_of_mem h
  rw [lowK_mem hs hi]
  exact hi
 ·intro h
  exact List.mem_of_getElem? h
theorem lowK_end {ks:List ByteArray} {k:ByteArray} (h:∀ x∈ks,kless x k):lowK ks k=ks.length:=by
 rcases Nat.lt_or_ge (lowK ks k) ks.length with hl|hl
 ·exact absurd (h _ (List.getElem_mem hl)) (lowK_here (List.getElem?_eq_getElem hl))
 ·have:=lowK_le ks k
  omega
def hasK (ks:List ByteArray) (k:ByteArray):Bool:=ks.any fun x=>decide (x=k)
theorem hasK_iff {ks:List ByteArray} {k:ByteArray}:hasK ks k=true↔k∈ks:=by
 unfold hasK
 rw [List.any_eq_true]
 constructor
 ·rintro ⟨x,h1,h2⟩
  rw [←of_decide_eq_true h2]
  exact h1
 ·intro h
  exact ⟨k,h,by simp⟩
end S
theorem bsearchK_nil (nm:ByteArray) (w:World) :
  Calls Tryz.prog 78 #[.slice none 0 0,.string nm] w fun e w'=>e=.returned (.tuple #[.int .i64 0,.bool false])∧Q w w':=by
 go_enter Tryz.func78,Tryz.ntmps78
 go_wp2_with fail
 go_loopw [7,8] (fun a b wr=>a=.int .i64 0∧b=.int .i64 0∧wr=w) (fun _ _ _=>0)
 case atStart=>exact ⟨rfl,rfl,rfl⟩
 case round =>
  obtain ⟨rfl,rfl,rfl⟩:=hrel
  go_wp2_with fail
  go_ret2
  exact ⟨rfl,Q.refl _⟩
theorem bsearchK (ks:List ByteArray) (hs:S.Rising ks) (hl:ks.length≤140737488351232) (nm:ByteArray) (base:Nat) (ao:Option Addr) (cap:Nat) (w:World) (hr:w.ownsRow base 9 1 (.slice ao ks.length cap) ks.length (strVals ks)) :
  Calls Tryz.prog 78 #[.slice ao ks.length cap,.string nm] w fun e w'=>e=.returned (.tuple #[.int .i64 (S.lowK ks nm:Nat),.bool (S.hasK ks nm)])∧Q w w':=by
 rcases hr.2 with ⟨hv,h0⟩|⟨g,c,cur,hv,_,hh,_⟩
 ·have hf:ks=[]:=List.eq_nil_of_length_eq_zero h0
  subst hf
  injection hv with e1 e2 e3
  subst e1 e3
  exact bsearchK_nil nm w
 ·injection hv with e1 e2 e3
  subst e1 e3
  obtain ⟨Sx,hSx⟩:∃ Sx:Nat→ByteArray,Sx=fun t=>(ks[t]?).getD nm:=⟨_,rfl⟩
  have hc:∀ j,j<ks.length→w.cell? ⟨g,0+j,none⟩=some (.string (Sx j)):=fun j hj=>by
   rw [Nat.zero_add,hr.cellAt j (by omega),hSx]
   simp [strVals,List.getElem?_eq_getElem hj]
  have hb:Lib.bsGo (fun t=>Op.bytesLess (Sx t).toList nm.toList) ks.length 0 ks.length=S.lowK ks nm:=by
   refine Lib.bsGo_spec _ (S.lowK ks nm) (fun t ht=>?_) (fun t ht=>?_) _ _ _ (by omega) (Nat.zero_le _) (S.lowK_le ks nm)
   ·have hlt:t<ks.length:=Nat.lt_of_lt_of_le ht (S.lowK_le ks nm)
    have:=S.lowK_before (List.getElem?_eq_getElem hlt) ht
    rw [hSx]
    simpa [List.getElem?_eq_getElem hlt,S.kless] using this
   ·rw [hSx]
    by_cases hlt:t<ks.length
    ·have:=S.lowK_behind hs (List.getElem?_eq_getElem hlt) ht
     simpa [List.getElem?_eq_getElem hlt,S.kless] using this
    ·simp [List.getElem?_eq_none (Nat.le_of_not_lt hlt),M.less_irrefl]
  have hC:=Any2.slices_BinarySearch_string laysBs g 0 ks.length cap Sx nm w (by omega) hc
  rw [hb] at hC
  refine Calls.mono hC ?_
  rintro e w' ⟨rfl,q,rfl⟩
  refine ⟨?_,Q.drewN (Q.refl w) q⟩
  have hd:decide (S.lowK ks nm<ks.length∧Sx (S.lowK ks nm)=nm)=S.hasK ks nm:=by
   rw [Bool.eq_iff_iff,decide_eq_true_iff,S.hasK_iff,S.mem_lowK hs,hSx]
   by_cases hlt:S.lowK ks nm<ks.length
   ·simp [hlt]
   ·simp [hlt]
  rw [hd]
end Go.Proofs.YtekdenkllipehabGreatDoor
