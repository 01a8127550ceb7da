import Derived.Test.YtekdenkllipehabGreatDoorP17
import Derived.Shelf.Strings.Builder2
set_option maxRecDepth 100000
set_option maxHeartbeats 8000000
namespace Go.Proofs.YtekdenkllipehabGreatDoor
open Go.Shelf
def zE9:Go.Shelf.Ren:=⟨fun | 165=>162 | 240=>190 | 241=>191 | 276=>200 | 277=>201 | n=>n,fun | 0=>0 | 3=>3 | 4=>4 | 5=>5 | 9=>9 | 20=>20 | 37=>88 | 70=>222 | 72=>224 | 164=>261 | n=>n,fun n=>n⟩
theorem zP7:Lays.n165 Tryz.prog zE9:={
 mixed:=by kernel_rfl
 f165:=Tryz.func162.trans (congrArg some (by kernel_rfl))
 f240:=Tryz.func190.trans (congrArg some (by kernel_rfl))
 f241:=Tryz.func191.trans (congrArg some (by kernel_rfl))
 f276:=Tryz.func200.trans (congrArg some (by kernel_rfl))
 f277:=Tryz.func201.trans (congrArg some (by kernel_rfl))
 t0:=Tryz.underlying0
 a0:=Tryz.isAgg0
 z0:=Tryz.sizeOf0
 v0:=Tryz.zeroValue0
 t3:=Tryz.underlying3
 a3:=Tryz.isAgg3
 z3:=Tryz.sizeOf3
 v3:=Tryz.zeroValue3
 t4:=Tryz.underlying4
 a4:=Tryz.isAgg4
 z4:=Tryz.sizeOf4
 v4:=Tryz.zeroValue4
 t9:=Tryz.underlying9
 a9:=Tryz.isAgg9
 z9:=Tryz.sizeOf9
 v9:=Tryz.zeroValue9
 t20:=Tryz.underlying20
 a20:=Tryz.isAgg20
 z20:=Tryz.sizeOf20
 v20:=Tryz.zeroValue20
 t37:=Tryz.underlying88
 a37:=Tryz.isAgg88
 z37:=Tryz.sizeOf88
 v37:=Tryz.zeroValue88
 t70:=Tryz.underlying222
 a70:=Tryz.isAgg222
 z70:=Tryz.sizeOf222
 v70:=Tryz.zeroValue222
 t72:=Tryz.underlying224
 a72:=Tryz.isAgg224
 z72:=Tryz.sizeOf224
 v72:=Tryz.zeroValue224
 t164:=Tryz.underlying261
 a164:=Tryz.isAgg261
 z164:=Tryz.sizeOf261
 v164:=Tryz.zeroValue261 }
theorem zNy:Builder.Extra Tryz.prog zE9:={
 sizeBuilder:=by kernel_rfl
 liesBuilder:=by kernel_rfl
 t5:=Tryz.underlying5
 a5:=Tryz.isAgg5
 z5:=Tryz.sizeOf5
 v5:=Tryz.zeroValue5
 infoByte:=by kernel_rfl
 cellsByte:=by kernel_rfl
 sizeByte:=by kernel_rfl
 neB5:=by decide }
def zE8:Go.Shelf.Ren:=⟨fun | 166=>163 | 240=>190 | 276=>200 | n=>n,fun | 0=>0 | 3=>3 | 4=>4 | 5=>5 | 9=>9 | 20=>20 | 37=>88 | 70=>222 | 72=>224 | 75=>226 | 80=>229 | 164=>261 | n=>n,fun n=>n⟩
theorem zP6:Lays.n166 Tryz.prog zE8:={
 mixed:=by kernel_rfl
 f166:=Tryz.func163.trans (congrArg some (by kernel_rfl))
 f240:=Tryz.func190.trans (congrArg some (by kernel_rfl))
 f276:=Tryz.func200.trans (congrArg some (by kernel_rfl))
 t0:=Tryz.underlying0
 a0:=Tryz.isAgg0
 z0:=Tryz.sizeOf0
 v0:=Tryz.zeroValue0
 t3:=Tryz.underlying3
 a3:=Tryz.isAgg3
 z3:=Tryz.sizeOf3
 v3:=Tryz.zeroValue3
 t4:=Tryz.underlying4
 a4:=Tryz.isAgg4
 z4:=Tryz.sizeOf4
 v4:=Tryz.zeroValue4
 t9:=Tryz.underlying9
 a9:=Tryz.isAgg9
 z9:=Tryz.sizeOf9
 v9:=Tryz.zeroValue9
 t20:=Tryz.underlying20
 a20:=Tryz.isAgg20
 z20:=Tryz.sizeOf20
 v20:=Tryz.zeroValue20
 t37:=Tryz.underlying88
 a37:=Tryz.isAgg88
 z37:=Tryz.sizeOf88
 v37:=Tryz.zeroValue88
 t70:=Tryz.underlying222
 a70:=Tryz.isAgg222
 z70:=Tryz.sizeOf222
 v70:=Tryz.zeroValue222
 t72:=Tryz.underlying224
 a72:=Tryz.isAgg224
 z72:=Tryz.sizeOf224
 v72:=Tryz.zeroValue224
 t75:=Tryz.underlying226
 a75:=Tryz.isAgg226
 z75:=Tryz.sizeOf226
 v75:=Tryz.zeroValue226
 t164:=Tryz.underlying261
 a164:=Tryz.isAgg261
 z164:=Tryz.sizeOf261
 v164:=Tryz.zeroValue261 }
theorem zNx:Builder.Extra Tryz.prog zE8:={
 sizeBuilder:=by kernel_rfl
 liesBuilder:=by kernel_rfl
 t5:=Tryz.underlying5
 a5:=Tryz.isAgg5
 z5:=Tryz.sizeOf5
 v5:=Tryz.zeroValue5
 infoByte:=by kernel_rfl
 cellsByte:=by kernel_rfl
 sizeByte:=by kernel_rfl
 neB5:=by decide }
def zE7:Go.Shelf.Ren:=⟨fun | 169=>164 | n=>n,fun | 0=>0 | 3=>3 | 5=>5 | 9=>9 | 37=>88 | 70=>222 | 72=>224 | 127=>176 | n=>n,fun n=>n⟩
theorem zP5:Lays.n169 Tryz.prog zE7:={
 mixed:=by kernel_rfl
 f169:=Tryz.func164.trans (congrArg some (by kernel_rfl))
 t0:=Tryz.underlying0
 a0:=Tryz.isAgg0
 z0:=Tryz.sizeOf0
 v0:=Tryz.zeroValue0
 t3:=Tryz.underlying3
 a3:=Tryz.isAgg3
 z3:=Tryz.sizeOf3
 v3:=Tryz.zeroValue3
 t9:=Tryz.underlying9
 a9:=Tryz.isAgg9
 z9:=Tryz.sizeOf9
 v9:=Tryz.zeroValue9
 t37:=Tryz.underlying88
 a37:=Tryz.isAgg88
 z37:=Tryz.sizeOf88
 v37:=Tryz.zeroValue88
 t70:=Tryz.underlying222
 a70:=Tryz.isAgg222
 z70:=Tryz.sizeOf222
 v70:=Tryz.zeroValue222
 t72:=Tryz.underlying224
 a72:=Tryz.isAgg224
 z72:=Tryz.sizeOf224
 v72:=Tryz.zeroValue224
 t127:=Tryz.underlying176
 a127:=Tryz.isAgg176
 z127:=Tryz.sizeOf176
 v127:=Tryz.zeroValue176 }
theorem zNw:Builder.Extra Tryz.prog zE7:={
 sizeBuilder:=by kernel_rfl
 liesBuilder:=by kernel_rfl
 t5:=Tryz.underlying5
 a5:=Tryz.isAgg5
 z5:=Tryz.sizeOf5
 v5:=Tryz.zeroValue5
 infoByte:=by kernel_rfl
 cellsByte:=by kernel_rfl
 sizeByte:=by kernel_rfl
 neB5:=by decide }
end Go.Proofs.YtekdenkllipehabGreatDoor
namespace Go.Proofs.YtekdenkllipehabGreatDoor
open Go.RowKit
variable {i:Nat} {k:ByteArray} {ks:List ByteArray}
namespace S
def ZL (ks:List ByteArray):Prop:=ks.Pairwise zu
def YJ (ks:List ByteArray) (k:ByteArray):Nat:=(ks.takeWhile fun x=>decide (zu x k)).length
theorem zB4 (ks:List ByteArray) (k:ByteArray):YJ ks k≤ks.length:=(List.takeWhile_sublist _).length_le
theorem zAc:∀ {ks:List ByteArray} {k:ByteArray} {i:Nat} {x:ByteArray},ks[i]?=some x→i<YJ ks k→zu x k
 | y::ks,k,i,x,h,hi=>by
  unfold YJ at hi;rw [zRE] at hi;split at hi
  ·rename_i hy
   cases i with
   | zero=>simp only [zQt,zQj] at h;subst h;simpa using hy
   | succ i=>exact zAc (ks:=ks) (k:=k) (i:=i) (by simpa using h) (by simp only [zQl] at hi;unfold YJ;omega)
  ·simp at hi
theorem zCI:∀ {ks:List ByteArray} {k x:ByteArray},ks[YJ ks k]?=some x→¬zu x k
 | y::ks,k,x,h=>by
  unfold YJ at h;rw [zRE] at h;split at h
  ·simp only [zQl,zQu] at h;exact zCI h
  ·rename_i hy;simp only [zQr,zQt,zQj] at h;subst h;simpa using hy
theorem zE5 (hs:ZL ks) {x:ByteArray} (hx:ks[i]?=some x) (hi:YJ ks k≤i):¬zu x k:=by
 intro hk;have hlt:i<ks.length:=(zQd.1 hx).1;have hl:YJ ks k<ks.length:=by omega
 have hh:=zCI (ks:=ks) (k:=k) (zQc hl);rcases zR8 (YJ ks k) i with h|h
 ·have:=zRO.1 hs (YJ ks k) i hl hlt h;have hx':ks[i]=x:=(zQd.1 hx).2;rw [hx'] at this;exact hh (YB this hk)
 ·have:i=YJ ks k:=by omega
  subst this;rw [zQc hl] at hx;injection hx with hx;rw [hx] at hh;exact hh hk
theorem zBO (hs:ZL ks) (hx:ks[i]?=some k):YJ ks k=i:=by
 rcases Nat.lt_trichotomy (YJ ks k) i with h|h|h
 ·have hlt:i<ks.length:=(zQd.1 hx).1;have hl:YJ ks k<ks.length:=by omega
  have:=zRO.1 hs (YJ ks k) i hl hlt h;rw [(zQd.1 hx).2] at this;exact absurd this (zCI (zQc hl))
 ·exact h
 ·exact absurd (zAc hx h) (yP k)
theorem zFs (hs:ZL ks) :k∈ks↔ks[YJ ks k]?=some k:=by
 constructor
 ·intro h;obtain ⟨i,hi⟩:=List.getElem?_of_mem h;rw [zBO hs hi];exact hi
 ·intro h;exact zQm h
theorem zCJ (h:∀ x∈ks,zu x k):YJ ks k=ks.length:=by
 rcases zR8 (YJ ks k) ks.length with hl|hl
 ·exact absurd (h _ (List.getElem_mem hl)) (zCI (zQc hl))
 ·have:=zB4 ks k;omega
def zEK (ks:List ByteArray) (k:ByteArray):Bool:=ks.any fun x=>decide (x=k)
theorem ZA :zEK ks k=true↔k∈ks:=by
 unfold zEK;rw [List.any_eq_true];constructor
 ·rintro ⟨x,h1,h2⟩;rw [←of_decide_eq_true h2];exact h1
 ·intro h;exact ⟨k,h,by simp⟩
end S
theorem zHe (nm:ByteArray) (w:World) :
  Calls Tryz.prog 78 #[.slice none 0 0,.string nm] w fun e w'=>e=.returned (.tuple #[.int .i64 0,.bool false])∧Q w w':=by
 go_enter Tryz.func78,Tryz.ntmps78;go_wp2_with fail
 go_loopw [7,8] (fun a b wr=>a=.int .i64 0∧b=.int .i64 0∧wr=w) (fun _ _ _=>0)
 case atStart=>exact ⟨rfl,rfl,rfl⟩
 case round =>
  obtain ⟨rfl,rfl,rfl⟩:=hrel;go_wp2_with fail
  go_ret2
  exact ⟨rfl,Q.refl _⟩
theorem zDX (ks:List ByteArray) (hs:S.ZL ks) (hl:ks.length≤140737488351232) (nm:ByteArray) (base:Nat) (ao:Option Addr) (cap:Nat) (w:World) (hr:w.ownsRow base 9 1 (.slice ao ks.length cap) ks.length (zH ks)) :
  Calls Tryz.prog 78 #[.slice ao ks.length cap,.string nm] w fun e w'=>e=.returned (.tuple #[.int .i64 (S.YJ ks nm:Nat),.bool (S.zEK ks nm)])∧Q w w':=by
 rcases hr.2 with ⟨hv,h0⟩|⟨g,c,cur,hv,_,hh,_⟩
 ·have hf:ks=[]:=zQi h0;subst hf;injection hv with e1 e2 e3;subst e1 e3;exact zHe nm w
 ·injection hv with e1 e2 e3;subst e1 e3;obtain ⟨Sx,hSx⟩:∃ Sx:Nat→ByteArray,Sx=fun t=>(ks[t]?).getD nm:=⟨_,rfl⟩;have hc:∀ j,j<ks.length→w.cell? ⟨g,0+j,none⟩=some (.string (Sx j)):=fun j hj=>by
   rw [zR5,hr.cellAt j (by omega),hSx];simp [zH,List.getElem?_eq_getElem hj]
  have hb:Lib.bsGo (fun t=>Op.bytesLess (Sx t).toList nm.toList) ks.length 0 ks.length=S.YJ ks nm:=by
   refine Lib.bsGo_spec _ (S.YJ ks nm) (fun t ht=>?_) (fun t ht=>?_) _ _ _ (by omega) (zQn _) (S.zB4 ks nm)
   ·have hlt:t<ks.length:=zQe ht (S.zB4 ks nm);have:=S.zAc (zQc hlt) ht;rw [hSx];simpa [List.getElem?_eq_getElem hlt,S.zu] using this
   ·rw [hSx];by_cases hlt:t<ks.length
    ·have:=S.zE5 hs (zQc hlt) ht;simpa [List.getElem?_eq_getElem hlt,S.zu] using this
    ·simp [List.getElem?_eq_none (Nat.le_of_not_lt hlt),M.yu]
  have hC:=Any2.slices_BinarySearch_string zOS g 0 ks.length cap Sx nm w (by omega) hc;rw [hb] at hC;refine Calls.mono hC ?_;rintro e w' ⟨rfl,q,rfl⟩;refine ⟨?_,Q.drewN (Q.refl w) q⟩;have hd:decide (S.YJ ks nm<ks.length∧Sx (S.YJ ks nm)=nm)=S.zEK ks nm:=by
   rw [Bool.eq_iff_iff,decide_eq_true_iff,S.ZA,S.zFs hs,hSx];by_cases hlt:S.YJ ks nm<ks.length
   ·simp [hlt]
   ·simp [hlt]
  rw [hd]
end Go.Proofs.YtekdenkllipehabGreatDoor
