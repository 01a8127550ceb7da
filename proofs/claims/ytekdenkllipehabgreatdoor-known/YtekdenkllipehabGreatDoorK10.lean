import Derived.Test.YtekdenkllipehabGreatDoorK05
import Derived.Test.YtekdenkllipehabGreatDoorK07
import Derived.Laws.MakeOwn
import Derived.Lib.Strings
set_option maxRecDepth 100000
set_option maxHeartbeats 8000000
namespace Go.Proofs.YtekdenkllipehabGreatDoor
open Go.RowKit
theorem seal_any (s:ByteArray) (hs:s.size≤281474976710656) (w:World) (hT:Tab w) :
  Calls Tryz.prog 161 #[.string s] w fun e w'=>e=.returned (.string ⟨(M.le4 (M.sum s.data.toList)).toArray⟩)∧Below w.heap.size w w':=by
 have hn:=M.sum_lt s.data.toList
 have hcv:=conv4
 have hsum:=sum_any s hs w hT
 generalize M.sum s.data.toList=n at *
 have HS:Hid _:=hsum
 have E:Hid (#[UInt8.ofNat (n % 256),UInt8.ofNat (n / 256 % 256),UInt8.ofNat (n / 65536 % 256),UInt8.ofNat (n / 16777216)]=(M.le4 n).toArray):=M.le4_last n hn
 clear hsum
 go_enter Tryz.func161,Tryz.ntmps161
 go_wp2_with fail
 refine Calls.mono HS.out ?_
 rintro e w1 ⟨rfl,rfl⟩
 go_wp2_with fail
 go_ret
 exact ⟨congrArg (fun x=>Ending.returned (.string ⟨x⟩)) E.out,(Below.refl _ _).alloc (Nat.le_refl _) _⟩
theorem tab_pos {w:World} (h:Tab w):1<w.heap.size:=by
 have h0:=h 0 (by omega)
 rcases Nat.lt_or_ge 1 w.heap.size with e|e
 ·exact e
 ·exfalso
  unfold World.cell? at h0
  rw [Array.getElem?_eq_none e] at h0
  simp at h0
theorem tab_kept {w w':World} (h:Tab w) (q:Q w w'):Tab w':=fun i hi=>(q.below.cell (p:=⟨1,i,none⟩) (tab_pos h)).trans (h i hi)
theorem infoByte:(Tryz.prog.info? 5).map (fun i=>(i.zero,i.size,i.bytes))=some (some (.int .u8 0),1,1):=by kernel_rfl
structure Fill (N n:Nat) (acc:List UInt8) (wr:World):Prop where
 cell:∀ j,j<n→wr.cell? ⟨N,j,none⟩=some (.int .u8 ((acc.getD j 0).toNat:Int))
 frz:∀ j,wr.frozen? ⟨N,j,none⟩=false
theorem Fill.step {N n:Nat} {acc:List UInt8} {wr:World} (h:Fill N n acc wr) (b:UInt8) (v:Int) (hv:v=(b.toNat:Int)):Fill N n (acc++[b]) (wr.setCell ⟨N,acc.length,none⟩ (.int .u8 v)):=by
 subst hv
 constructor
 ·intro j hj
  by_cases e:j=acc.length
  ·subst e
   rw [World.cell?_setCell_same wr _ _ (h.cell acc.length hj)]
   simp
  ·rw [World.cell?_setCell_other wr _ _ _ (by intro hh;injection hh;omega),h.cell j hj]
   rcases Nat.lt_or_ge j acc.length with hlt|hge
   ·simp [List.getElem?_append_left hlt]
   ·have h1:acc[j]?=none:=List.getElem?_eq_none hge
    have h2:(acc++[b])[j]?=none:=List.getElem?_eq_none (by simp;omega)
    simp [h1,h2]
 ·intro j;rw [World.frozen?_setCell];exact h.frz j
theorem Fill.text {N n cap:Nat} {acc:List UInt8} {wr:World} (h:Fill N n acc wr) (ha:acc.length=n):(convert 88 9 (.slice (some ⟨N,0,none⟩) n cap)).run Tryz.prog wr=.ok (.string ⟨acc.toArray⟩) wr:=by
 subst ha
 exact run_convert_bytes_back (P:=Tryz.prog) wr 88 9 5 ⟨N,0,none⟩ cap acc Tryz.underlying88 Tryz.underlying5 Tryz.underlying9 (fun j hj=>by
  have:=h.cell j hj
  simp [List.getElem?_eq_getElem hj] at this
  have hp:(⟨N,0,none⟩:Addr).add j=⟨N,j,none⟩:=by unfold Addr.add;split<;>simp_all
  rw [hp];exact this)
structure Laid (N:Nat) (acc:List UInt8) (wr:World):Prop where
 cell:∀ j,j<8→wr.cell? ⟨N,j,none⟩=some (.int .u8 ((acc.getD j 0).toNat:Int))
 frz:∀ j,wr.frozen? ⟨N,j,none⟩=false
theorem Laid.start (w:World):Laid w.heap.size [] (w.alloc (.cells #[.int .u8 0,.int .u8 0,.int .u8 0,.int .u8 0,.int .u8 0,.int .u8 0,.int .u8 0,.int .u8 0] 239)):=by
 constructor
 ·intro j hj
  match j,hj with
  | 0,_=>simp
  | 1,_=>simp
  | 2,_=>simp
  | 3,_=>simp
  | 4,_=>simp
  | 5,_=>simp
  | 6,_=>simp
  | 7,_=>simp
 ·intro j;simp
theorem Laid.step {N:Nat} {acc:List UInt8} {wr:World} (h:Laid N acc wr) (b:UInt8) (v:Int) (hv:v=(b.toNat:Int)):Laid N (acc++[b]) (wr.setCell ⟨N,acc.length,none⟩ (.int .u8 v)):=by
 subst hv
 constructor
 ·intro j hj
  by_cases e:j=acc.length
  ·subst e
   rw [World.cell?_setCell_same wr _ _ (h.cell acc.length (by omega))]
   simp
  ·rw [World.cell?_setCell_other wr _ _ _ (by intro hh;injection hh;omega),h.cell j hj]
   rcases Nat.lt_or_ge j acc.length with hlt|hge
   ·simp [List.getElem?_append_left hlt]
   ·have h1:acc[j]?=none:=List.getElem?_eq_none hge
    have h2:(acc++[b])[j]?=none:=List.getElem?_eq_none (by simp;omega)
    simp [h1,h2]
 ·intro j;rw [World.frozen?_setCell];exact h.frz j
theorem slice8 (N k:Nat) (hk:k≤7) (W:World):(Instr.sliceAt 239 (.pointer (some ⟨N,0,none⟩)) none (some (.int .i64 ((k:Int)+1))) none).run Tryz.prog W=.ok (.slice (some ⟨N,0,none⟩) (k+1) 8) W:=by
 have hz:Tryz.prog.arrayLen 239=8:=by kernel_rfl
 have hs:(Go.sizeOf (Tryz.prog.elem 239)).run Tryz.prog W=.ok 1 W:=by kernel_rfl
 rw [run_sliceAt_array_h W 239 ⟨N,0,none⟩ (by kernel_rfl) .i64 ((k:Int)+1) (by omega) (by rw [hz];omega),hs]
 simp [Result.andThen,slicedAt,hz,Addr.add]
theorem Laid.text {N:Nat} {acc:List UInt8} {wr:World} (h:Laid N acc wr) (ha:acc.length≤8):(convert 88 9 (.slice (some ⟨N,0,none⟩) acc.length 8)).run Tryz.prog wr=.ok (.string ⟨acc.toArray⟩) wr:=
 run_convert_bytes_back (P:=Tryz.prog) wr 88 9 5 ⟨N,0,none⟩ 8 acc Tryz.underlying88 Tryz.underlying5 Tryz.underlying9 (fun j hj=>by
  have:=h.cell j (by omega)
  simp [List.getElem?_eq_getElem hj] at this
  have hp:(⟨N,0,none⟩:Addr).add j=⟨N,j,none⟩:=by unfold Addr.add;split<;>simp_all
  rw [hp];exact this)
theorem put_yes (n:Nat) (hn:n<72057594037927936) (w:World) :
  Calls Tryz.prog 155 #[.int .i64 n] w fun e w'=>e=.returned (.tuple #[.string ⟨(M.enc 7 n).toArray⟩,.int .i64 0])∧Q w w':=by
 have hs:=M.rest_start n hn
 generalize M.enc 7 n=l at *
 go_enter Tryz.func155,Tryz.ntmps155
 go_wp2
 go_loopw [0,5] (fun x i wr=>∃ f m:Nat,∃ acc:List UInt8,M.Rest l f m acc∧x=.int .i64 m∧i=.int .i64 acc.length∧Laid w.heap.size acc wr∧Q w wr) (fun x _ _=>(intOf x).toNat)
 case atStart=>exact ⟨7,n,[],hs,rfl,rfl,Laid.start w,(Q.refl w).alloc _ _⟩
 case round =>
  obtain ⟨f,m,acc,hr,rfl,rfl,hL,hq⟩:=hrel
  have hm:=M.rest_lt hr
  have hl:=M.rest_len hr
  have hc:=hL.cell acc.length (by omega)
  simp only [List.getD,List.getElem?_eq_none (Nat.le_refl _),Option.getD_none] at hc
  have hf:=hL.frz acc.length
  by_cases hlt:m<128
  ·have hL2:=hL.step (UInt8.ofNat m) m (by simp;omega)
   have hsl:=slice8 w.heap.size acc.length hl
   have hcv:=hL2.text (by simp;omega)
   simp only [List.length_append,List.length_singleton] at hcv
   rw [M.rest_small hr hlt] at hcv
   go_wp2
   go_ret2
   exact ⟨rfl,hq.setCell (Nat.le_refl _) _⟩
  ·have hb1:=i64_and127 m (by omega) (by omega)
   have hb2:=u8_or_high ((m:Int) % 128) (by omega) (by omega)
   obtain ⟨g,HG⟩:∃ g,Hid (M.Rest l g (m / 128) (acc++[UInt8.ofNat (m % 128+128)])):=by obtain ⟨g,_,h⟩:=M.rest_big hr hlt;exact ⟨g,h⟩
   have hL2:=hL.step (UInt8.ofNat (m % 128+128)) ((m:Int) % 128+128) (by simp;omega)
   go_wp2
   go_roundw
   case rel=>exact ⟨g,m / 128,_,HG.out,by go_num,by simp,hL2,hq.setCell (Nat.le_refl _) _⟩
   case measure=>simp [intOf];omega
theorem get_out (s:ByteArray) (a:Int) (hs:s.size≤maxLen) (ha:a<0∨(s.size:Int)≤a) (w:World) :
  Calls Tryz.prog 132 #[.string s,.int .i64 a] w fun e w'=>e=.returned (.tuple #[.int .i64 0,.int .i64 0,.int .i64 2])∧w'=w:=by
 unfold maxLen at hs
 rcases ha with ha|ha
 ·go_enter Tryz.func132,Tryz.ntmps132
  go_wp2
  go_ret3
  exact ⟨rfl,rfl⟩
 ·have h0:¬a<0:=by omega
  go_enter Tryz.func132,Tryz.ntmps132
  go_wp2
  go_ret3
  exact ⟨rfl,rfl⟩
theorem get_in (s:ByteArray) (a:Nat) (hs:s.size≤maxLen) (ha:a<s.size) (w:World) :
  Calls Tryz.prog 132 #[.string s,.int .i64 a] w fun e w'=>e=told (M.rd 8 [] (s.data.toList.drop a)) a∧w'=w:=by
 unfold maxLen at hs
 have hD:(s.data.toList.drop a).length=s.size-a:=by simp
 have hB:=byteAt s a
 generalize s.data.toList.drop a=D at *
 have HD:Hid (D.length=s.size-a):=hD
 have HB:Hid (∀ (k:Nat) (h:a+k<s.size),D[k]?=some s[a+k]):=hB
 clear hD hB
 go_enter Tryz.func132,Tryz.ntmps132
 go_wp2
 all_goals
  go_loop [7,23] (fun n i=>∃ k:Nat,M.Far D k∧i=.int .i64 k∧n=.int .i64 (M.val (D.take k))) (fun _ i=>8-(intOf i).toNat)
  case atStart=>exact ⟨0,M.far_zero D,rfl,rfl⟩
  case round =>
   obtain ⟨k,hF,rfl,rfl⟩:=hrel
   have hk8:k≤8:=hF.1
   have hkl:k≤s.size-a:=by have:=hF.2.1;rw [HD.out] at this;exact this
   by_cases hk:k<8∧a+k<s.size
   ·obtain ⟨h3,h4⟩:=hk
    have hv:=M.val_take_small hF.2.1 hk8
    go_wp2
    ·go_round
     case rel =>
      have g1:(128:Int)≤(s[a+k].toNat:Int):=by assumption
      exact ⟨k+1,M.far_step hF h3 (HB.out k h4) (Int.ofNat_le.1 g1),by go_num,congrArg (Value.int .i64) (or_step (HB.out k h4) h3)⟩
     case measure=>simp [intOf];omega
    ·have g1:s[a+k].toNat=0:=by assumption
     have g2:0<k:=by assumption
     have E:=told_none (a:=a) (M.rd_nil hF h3 (HB.out k h4) (UInt8.toNat_inj.1 g1) g2)
     go_ret3
     exact ⟨E,rfl⟩
    ·have g1:(s[a+k].toNat:Int)<128:=by assumption
     have g2:¬0<k:=by assumption
     have g0:s[a+k].toNat=0:=by assumption
     have E:=told_hit (a:=a) hF h3 (HB.out k h4) (Int.ofNat_lt.1 g1) (Or.inr g2) (or_step (HB.out k h4) h3) rfl
     rw [show (s[a+k].toNat:Int)=0 by rw [g0];rfl] at E
     go_ret3
     exact ⟨E,rfl⟩
    ·have g1:(s[a+k].toNat:Int)<128:=by assumption
     have g2:¬s[a+k].toNat=0:=by assumption
     have E:=told_hit (a:=a) hF h3 (HB.out k h4) (Int.ofNat_lt.1 g1) (Or.inl g2) (or_step (HB.out k h4) h3) rfl
     go_ret3
     exact ⟨E,rfl⟩
   ·have E:=told_none (a:=a) (M.rd_stop hF (by rw [HD.out];omega))
    go_wp2
    go_ret3
    exact ⟨E,rfl⟩
end Go.Proofs.YtekdenkllipehabGreatDoor
