import Derived.Test.YtekdenkllipehaaGreatDoorP13
import Derived.Shelf.Strings.Builder2
set_option maxRecDepth 99999
set_option maxHeartbeats 0
namespace Go.Proofs.YtekdenkllipehaaGreatDoor
section
open Go.Shelf
def Pw:Go.Shelf.Ren:=⟨fun|165=>178|240=>195|241=>196|276=>211|277=>212|n=>n,fun|0=>0|3=>3|4=>4|5=>5|9=>9|20=>20|37=>89|70=>228|72=>230|164=>264|n=>n,fun n=>n⟩
theorem wV:Lays.n165 Tryz.prog Pw:={
 mixed:=by kernel_rfl
 f165:=Tryz.func178.trans (congrArg some (by kernel_rfl))
 f240:=Tryz.func195.trans (congrArg some (by kernel_rfl))
 f241:=Tryz.func196.trans (congrArg some (by kernel_rfl))
 f276:=Tryz.func211.trans (congrArg some (by kernel_rfl))
 f277:=Tryz.func212.trans (congrArg some (by kernel_rfl))
 t0:=Tryz.underlying0
 a0:=Tryz.isAgg0
 z0:=Tryz.sizeOf0
 v0:=Tryz.zeroValue0
 t3:=Tryz.underlying3
 a3:=Tryz.isAgg3
 z3:=Tryz.sizeOf3
 v3:=Tryz.zeroValue3
 t4:=Tryz.underlying4
 a4:=Tryz.isAgg4
 z4:=Tryz.sizeOf4
 v4:=Tryz.zeroValue4
 t9:=Tryz.underlying9
 a9:=Tryz.isAgg9
 z9:=Tryz.sizeOf9
 v9:=Tryz.zeroValue9
 t20:=Tryz.underlying20
 a20:=Tryz.isAgg20
 z20:=Tryz.sizeOf20
 v20:=Tryz.zeroValue20
 t37:=Tryz.underlying89
 a37:=Tryz.isAgg89
 z37:=Tryz.sizeOf89
 v37:=Tryz.zeroValue89
 t70:=Tryz.underlying228
 a70:=Tryz.isAgg228
 z70:=Tryz.sizeOf228
 v70:=Tryz.zeroValue228
 t72:=Tryz.underlying230
 a72:=Tryz.isAgg230
 z72:=Tryz.sizeOf230
 v72:=Tryz.zeroValue230
 t164:=Tryz.underlying264
 a164:=Tryz.isAgg264
 z164:=Tryz.sizeOf264
 v164:=Tryz.zeroValue264 }
theorem rf:Builder.Extra Tryz.prog Pw:={
 sizeBuilder:=by kernel_rfl
 liesBuilder:=by kernel_rfl
 t5:=Tryz.underlying5
 a5:=Tryz.isAgg5
 z5:=Tryz.sizeOf5
 v5:=Tryz.zeroValue5
 infoByte:=by kernel_rfl
 cellsByte:=by kernel_rfl
 sizeByte:=by kernel_rfl
 neB5:=by decide }
def Pv:Go.Shelf.Ren:=⟨fun|166=>179|240=>195|276=>211|n=>n,fun|0=>0|3=>3|4=>4|5=>5|9=>9|20=>20|37=>89|70=>228|72=>230|75=>232|80=>235|164=>264|n=>n,fun n=>n⟩
theorem wU:Lays.n166 Tryz.prog Pv:={
 mixed:=by kernel_rfl
 f166:=Tryz.func179.trans (congrArg some (by kernel_rfl))
 f240:=Tryz.func195.trans (congrArg some (by kernel_rfl))
 f276:=Tryz.func211.trans (congrArg some (by kernel_rfl))
 t0:=Tryz.underlying0
 a0:=Tryz.isAgg0
 z0:=Tryz.sizeOf0
 v0:=Tryz.zeroValue0
 t3:=Tryz.underlying3
 a3:=Tryz.isAgg3
 z3:=Tryz.sizeOf3
 v3:=Tryz.zeroValue3
 t4:=Tryz.underlying4
 a4:=Tryz.isAgg4
 z4:=Tryz.sizeOf4
 v4:=Tryz.zeroValue4
 t9:=Tryz.underlying9
 a9:=Tryz.isAgg9
 z9:=Tryz.sizeOf9
 v9:=Tryz.zeroValue9
 t20:=Tryz.underlying20
 a20:=Tryz.isAgg20
 z20:=Tryz.sizeOf20
 v20:=Tryz.zeroValue20
 t37:=Tryz.underlying89
 a37:=Tryz.isAgg89
 z37:=Tryz.sizeOf89
 v37:=Tryz.zeroValue89
 t70:=Tryz.underlying228
 a70:=Tryz.isAgg228
 z70:=Tryz.sizeOf228
 v70:=Tryz.zeroValue228
 t72:=Tryz.underlying230
 a72:=Tryz.isAgg230
 z72:=Tryz.sizeOf230
 v72:=Tryz.zeroValue230
 t75:=Tryz.underlying232
 a75:=Tryz.isAgg232
 z75:=Tryz.sizeOf232
 v75:=Tryz.zeroValue232
 t164:=Tryz.underlying264
 a164:=Tryz.isAgg264
 z164:=Tryz.sizeOf264
 v164:=Tryz.zeroValue264 }
theorem rZ:Builder.Extra Tryz.prog Pv:={
 sizeBuilder:=by kernel_rfl
 liesBuilder:=by kernel_rfl
 t5:=Tryz.underlying5
 a5:=Tryz.isAgg5
 z5:=Tryz.sizeOf5
 v5:=Tryz.zeroValue5
 infoByte:=by kernel_rfl
 cellsByte:=by kernel_rfl
 sizeByte:=by kernel_rfl
 neB5:=by decide }
def Pt:Go.Shelf.Ren:=⟨fun|169=>180|n=>n,fun|0=>0|3=>3|5=>5|9=>9|37=>89|70=>228|72=>230|127=>148|n=>n,fun n=>n⟩
theorem wT:Lays.n169 Tryz.prog Pt:={
 mixed:=by kernel_rfl
 f169:=Tryz.func180.trans (congrArg some (by kernel_rfl))
 t0:=Tryz.underlying0
 a0:=Tryz.isAgg0
 z0:=Tryz.sizeOf0
 v0:=Tryz.zeroValue0
 t3:=Tryz.underlying3
 a3:=Tryz.isAgg3
 z3:=Tryz.sizeOf3
 v3:=Tryz.zeroValue3
 t9:=Tryz.underlying9
 a9:=Tryz.isAgg9
 z9:=Tryz.sizeOf9
 v9:=Tryz.zeroValue9
 t37:=Tryz.underlying89
 a37:=Tryz.isAgg89
 z37:=Tryz.sizeOf89
 v37:=Tryz.zeroValue89
 t70:=Tryz.underlying228
 a70:=Tryz.isAgg228
 z70:=Tryz.sizeOf228
 v70:=Tryz.zeroValue228
 t72:=Tryz.underlying230
 a72:=Tryz.isAgg230
 z72:=Tryz.sizeOf230
 v72:=Tryz.zeroValue230
 t127:=Tryz.underlying148
 a127:=Tryz.isAgg148
 z127:=Tryz.sizeOf148
 v127:=Tryz.zeroValue148 }
theorem rY:Builder.Extra Tryz.prog Pt:={
 sizeBuilder:=by kernel_rfl
 liesBuilder:=by kernel_rfl
 t5:=Tryz.underlying5
 a5:=Tryz.isAgg5
 z5:=Tryz.sizeOf5
 v5:=Tryz.zeroValue5
 infoByte:=by kernel_rfl
 cellsByte:=by kernel_rfl
 sizeByte:=by kernel_rfl
 neB5:=by decide }
end
section
open Go.RowKit
variable{i:Nat}{k:BA}{ks:List BA}
namespace S
def DL(ks:List BA):Prop:=ks.Pairwise Bc
def Et(ks:List BA)(k:BA):Nat:=(ks.takeWhile fun x=>decide (Bc x k)).length
theorem Je(ks:List BA)(k:BA):Et ks k<=ks.length:=(List.takeWhile_sublist _).length_le
theorem Iu:∀{ks:List BA}{k:BA}{i:Nat}{x:BA},ks[i]?=some x->i<Et ks k->Bc x k
 |y::ks,k,i,x,h,hi=>by
  unfold Et at hi;rw[zLt]at hi;split at hi
  .rename_i hy
   cases i with
   |zero=>simp only[zLY,zLO]at h;subst h;simpa using hy
   |succ i=>exact Iu (ks:=ks) (k:=k) (i:=i) (by simpa using h) (by simp only[zLQ]at hi;unfold Et;omega)
  .simp at hi
theorem Lr:∀{ks:List BA}{k x:BA},ks[Et ks k]?=some x->¬Bc x k
 |y::ks,k,x,h=>by
  unfold Et at h;rw[zLt]at h;split at h
  .simp only[zLQ,zLZ]at h;exact Lr h
  .rename_i hy;simp only[zLW,zLY,zLO]at h;subst h;simpa using hy
theorem Pp(hs:DL ks){x:BA}(hx:ks[i]?=some x)(hi:Et ks k<=i):¬Bc x k:=by
 intro hk;have hlt:i<ks.length:=(zLI.1 hx).1;have hl:Et ks k<ks.length:=by omega
 have hh:=Lr (ks:=ks) (k:=k) (zLH hl);rcases zLn (Et ks k) i with h|h
 .have:=zM3.1 hs (Et ks k) i hl hlt h;have hx':ks[i]=x:=(zLI.1 hx).2;rw[hx']at this;exact hh (Ee this hk)
 .have:i=Et ks k:=by omega
  subst this;rw[zLH hl]at hx;injection hx with hx;rw[hx]at hh;exact hh hk
theorem J7(hs:DL ks)(hx:ks[i]?=some k):Et ks k=i:=by
 rcases Nat.lt_trichotomy (Et ks k) i with h|h|h
 .have hlt:i<ks.length:=(zLI.1 hx).1;have hl:Et ks k<ks.length:=by omega
  have:=zM3.1 hs (Et ks k) i hl hlt h;rw[(zLI.1 hx).2]at this;exact absurd this (Lr (zLH hl))
 .exact h
 .exact absurd (Iu hx h) (CW k)
theorem Ta(hs:DL ks):k∈ks↔ks[Et ks k]?=some k:=by
 constructor
 .intro h;obtain⟨i,hi⟩:=List.getElem?_of_mem h;rw[J7 hs hi];exact hi
 .intro h;exact zLR h
theorem Ls(h:∀x∈ks,Bc x k):Et ks k=ks.length:=by
 rcases zLn (Et ks k) ks.length with hl|hl
 .exact absurd (h _ (List.getElem_mem hl)) (Lr (zLH hl))
 .have:=Je ks k;omega
def QJ(ks:List BA)(k:BA):Bool:=ks.any fun x=>decide (x=k)
theorem Cn:QJ ks k=true↔k∈ks:=by
 unfold QJ;rw[List.any_eq_true];constructor
 .rintro⟨x,h1,h2⟩;rw[<-of_decide_eq_true h2];exact h1
 .intro h;exact⟨k,h,by simp⟩
end S
theorem Wn(nm:BA)(w:World):
  Calls Tryz.prog 68 #[nS,sT nm] w fun e w'=>e=.returned (.tuple #[iT 0,.bool false])/\Q w w':=by
 go_in;go_wp2_with fail
 go_loopw [7,8] (fun a b wr=>a=iT 0/\b=iT 0/\wr=w) (fun _ _ _=>0)
 case atStart=>exact⟨rfl,rfl,rfl⟩
 case round =>
  obtain⟨rfl,rfl,rfl⟩:=hrel;go_wp2_with fail
  go_ret2
  exact⟨rfl,Q.refl _⟩
theorem Od(ks:List BA)(hs:S.DL ks)(hl:ks.length<=140737488351232)(nm:BA)(base:Nat)(ao:Option Addr)(cap:Nat)(w:World)(hr:w.ownsRow base 9 1 (.slice ao ks.length cap) ks.length (AX ks)):
  Calls Tryz.prog 68 #[.slice ao ks.length cap,sT nm] w fun e w'=>e=.returned (.tuple #[iT (S.Et ks nm:Nat),.bool (S.QJ ks nm)])/\Q w w':=by
 rcases hr.2 with⟨hv,h0⟩|⟨g,c,cur,hv,_,hh,_⟩
 .have hf:ks=[]:=zLN h0;subst hf;injection hv with e1 e2 e3;subst e1 e3;exact Wn nm w
 .injection hv with e1 e2 e3;subst e1 e3;obtain⟨Sx,qj⟩:∃Sx:Nat->BA,Sx=fun t=>(ks[t]?).getD nm:=⟨_,rfl⟩;have hc:∀j,j<ks.length->w.cell? (aD g (0+j))=some (sT (Sx j)):=fun j hj=>by
   rw[zLk,hr.cellAt j (by omega),qj];simp[AX,List.getElem?_eq_getElem hj]
  have hb:Lib.bsGo (fun t=>Op.bytesLess (Sx t).toList nm.toList) ks.length 0 ks.length=S.Et ks nm:=by
   refine Lib.bsGo_spec _ (S.Et ks nm) (fun t ht=>?_) (fun t ht=>?_) _ _ _ (by omega) (zLS _) (S.Je ks nm)
   .have hlt:t<ks.length:=zLJ ht (S.Je ks nm);have:=S.Iu (zLH hlt) ht;rw[qj];simpa[List.getElem?_eq_getElem hlt,S.Bc]using this
   .rw[qj];by_cases hlt:t<ks.length
    .have:=S.Pp hs (zLH hlt) ht;simpa[List.getElem?_eq_getElem hlt,S.Bc]using this
    .simp[List.getElem?_eq_none (Nat.le_of_not_lt hlt),M.Ci]
  have hC:=Any2.slices_BinarySearch_string uF g 0 ks.length cap Sx nm w (by omega) hc;rw[hb]at hC;refine Calls.mono hC ?_;rintro e w'⟨rfl,q,rfl⟩;refine⟨?_,Q.drewN (Q.refl w) q⟩;have hd:decide (S.Et ks nm<ks.length/\Sx (S.Et ks nm)=nm)=S.QJ ks nm:=by
   rw[Bool.eq_iff_iff,decide_eq_true_iff,S.Cn,S.Ta hs,qj];by_cases hlt:S.Et ks nm<ks.length
   .simp[hlt]
   .simp[hlt]
  rw[hd]
end
end Go.Proofs.YtekdenkllipehaaGreatDoor
