import Derived.Test.YtekdenkllipehabGreatDoorK11
import Derived.Test.YtekdenkllipehabGreatDoorK12
import Derived.Test.YtekdenkllipehabGreatDoorK14
import Derived.Deep.RegionWith
import Derived.Shelf.Slices.SearchI
set_option maxRecDepth 100000
set_option maxHeartbeats 8000000
namespace Go.Proofs.YtekdenkllipehabGreatDoor
open Go.RowKit
structure RdAt (w:World) (C:Nat) (s:ByteArray) (a:Nat) (fl:Bool):Prop where
 c0:w.cell? ⟨C,0,none⟩=some (.string s)
 c1:w.cell? ⟨C,1,none⟩=some (.int .i64 (a:Int))
 c2:w.cell? ⟨C,2,none⟩=some (.bool fl)
 f1:w.frozen? ⟨C,1,none⟩=false
 f2:w.frozen? ⟨C,2,none⟩=false
 top:C<w.heap.size
theorem RdAt.kept {w w':World} {C a:Nat} {s:ByteArray} {fl:Bool} (h:RdAt w C s a fl) (q:Q w w'):RdAt w' C s a fl:=
 ⟨kept_cell h.c0 q,kept_cell h.c1 q,kept_cell h.c2 q,(q.below.frozen (p:=⟨C,1,none⟩) h.top).trans h.f1,(q.below.frozen (p:=⟨C,2,none⟩) h.top).trans h.f2,Nat.lt_of_lt_of_le h.top q.below.size⟩
theorem RdAt.moved {w:World} {C a:Nat} {s:ByteArray} {fl:Bool} (h:RdAt w C s a fl) (a':Nat):RdAt (w.setCell ⟨C,1,none⟩ (.int .i64 (a':Int))) C s a' fl:=by
 refine ⟨?_,World.cell?_setCell_same _ _ _ h.c1,?_,?_,?_,by simpa using h.top⟩
 ·rw [World.cell?_setCell_other _ _ _ _ (by simp)];exact h.c0
 ·rw [World.cell?_setCell_other _ _ _ _ (by simp)];exact h.c2
 ·rw [World.frozen?_setCell];exact h.f1
 ·rw [World.frozen?_setCell];exact h.f2
theorem RdAt.marked {w:World} {C a:Nat} {s:ByteArray} {fl:Bool} (h:RdAt w C s a fl) (fl':Bool):RdAt (w.setCell ⟨C,2,none⟩ (.bool fl')) C s a fl':=by
 refine ⟨?_,?_,World.cell?_setCell_same _ _ _ h.c2,?_,?_,by simpa using h.top⟩
 ·rw [World.cell?_setCell_other _ _ _ _ (by simp)];exact h.c0
 ·rw [World.cell?_setCell_other _ _ _ _ (by simp)];exact h.c1
 ·rw [World.frozen?_setCell];exact h.f1
 ·rw [World.frozen?_setCell];exact h.f2
theorem RdAt.grown {w w':World} {C a:Nat} {s:ByteArray} {fl:Bool} {row:Option Nat} (h:RdAt w C s a fl) (hg:w.grownBy w' row) (hne:row≠some C):RdAt w' C s a fl:=by
 have hb:w'.heap[C]?=w.heap[C]?:=hg.block C h.top (fun e=>hne e.symm)
 exact ⟨(World.cell?_of_block (a:=⟨C,0,none⟩) hb).trans h.c0,(World.cell?_of_block (a:=⟨C,1,none⟩) hb).trans h.c1,(World.cell?_of_block (a:=⟨C,2,none⟩) hb).trans h.c2,(World.frozen?_of_block (a:=⟨C,1,none⟩) hb).trans h.f1,(World.frozen?_of_block (a:=⟨C,2,none⟩) hb).trans h.f2,Nat.lt_of_lt_of_le h.top hg.size⟩
theorem grown_trans {w w1 w2:World} {row:Option Nat} (h:w.grownBy w1 row) (k:w1.grownBy w2 row):w.grownBy w2 row:=
 ⟨k.os.trans h.os,k.tape.trans h.tape,k.output.trans h.output,Nat.le_trans h.size k.size,fun b hb hne=>(k.block b (Nat.lt_of_lt_of_le hb h.size) hne).trans (h.block b hb hne)⟩
theorem rdRead (s:ByteArray) (w:World) :
  Calls Tryz.prog 96 #[.string s] w fun e w'=>e=.returned (.pointer (some ⟨w.heap.size,0,none⟩))∧RdAt w' w.heap.size s 0 false∧Q w w':=by
 go_enter Tryz.func96,Tryz.ntmps96
 go_wp2_with fail
 go_ret
 exact ⟨rfl,⟨by simp,by simp,by simp,by simp,by simp,by simp⟩,(Q.refl w).alloc _ _⟩
theorem rdFail (s:ByteArray) (_hs:s.size≤140737488351232) (a C:Nat) (fl:Bool) (w:World) (hA:RdAt w C s a fl) :
  Calls Tryz.prog 133 #[.pointer (some ⟨C,0,none⟩)] w fun e w'=>e=.returned (.tuple #[])∧RdAt w' C s s.size true∧w.grownBy w' (some C):=by
 have HA:Hid _:=(hA.moved s.size).marked true
 obtain ⟨c0,c1,c2,f1,f2,top⟩:=hA
 go_enter Tryz.func133,Tryz.ntmps133
 go_wp2_with fail
 go_end0
 exact ⟨rfl,HA.out,grown_set (grown_set (grown_of_q (Q.refl _) _) _) _⟩
theorem rdNum_some (s:ByteArray) (hs:s.size≤140737488351232) (a v nx C most:Nat) (fl:Bool) (hm:v≤most) (h:M.getAt s.data.toList a=some (v,nx)) (w:World) (hA:RdAt w C s a fl) :
  Calls Tryz.prog 97 #[.pointer (some ⟨C,0,none⟩),.int .i64 (most:Int)] w fun e w'=>e=.returned (.int .i64 (v:Int))∧RdAt w' C s nx fl∧w.grownBy w' (some C):=by
 have HG:Hid _:=get_some s a v nx hs h
 have HA:Hid _:=hA
 obtain ⟨c0,c1,c2,f1,f2,top⟩:=hA
 clear h
 have hd:decide ((most:Int)<(v:Int))=false:=by simp;omega
 go_enter Tryz.func97,Tryz.ntmps97
 go_wp2_with fail
 go_quiet ((go_at_call 132;refine Calls.quiet_of_same (HG.out _)))
 go_wp2_with fail
 go_ret
 exact ⟨rfl,(HA.out.kept ((Q.refl _).drewN _)).moved nx,grown_set (grown_of_q ((Q.refl _).drewN _) _) _⟩
theorem rdNum_much (s:ByteArray) (hs:s.size≤140737488351232) (a v nx C most:Nat) (fl:Bool) (hm:most<v) (h:M.getAt s.data.toList a=some (v,nx)) (w:World) (hA:RdAt w C s a fl) :
  Calls Tryz.prog 97 #[.pointer (some ⟨C,0,none⟩),.int .i64 (most:Int)] w fun e w'=>e=.returned (.int .i64 0)∧RdAt w' C s s.size true∧w.grownBy w' (some C):=by
 have HG:Hid _:=get_some s a v nx hs h
 have HA:Hid _:=hA
 have HFl:Hid _:=fun W (q:Q w W)=>rdFail s hs a C fl W (hA.kept q)
 obtain ⟨c0,c1,c2,f1,f2,top⟩:=hA
 clear h
 have hd:(most:Int)<(v:Int):=by omega
 go_enter Tryz.func97,Tryz.ntmps97
 go_wp2_with fail
 go_quiet ((go_at_call 132;refine Calls.quiet_of_same (HG.out _)))
 go_wp2_with fail
 refine (HFl.out _ ((Q.refl _).drewN _)).mono ?_
 rintro e w1 ⟨rfl,hA1,g1⟩
 go_wp2_with fail
 go_ret
 exact ⟨rfl,hA1,grown_trans (grown_of_q ((Q.refl _).drewN _) _) g1⟩
theorem rdNum_none (s:ByteArray) (hs:s.size≤140737488351232) (a C most:Nat) (fl:Bool) (h:M.getAt s.data.toList a=none) (w:World) (hA:RdAt w C s a fl) :
  Calls Tryz.prog 97 #[.pointer (some ⟨C,0,none⟩),.int .i64 (most:Int)] w fun e w'=>e=.returned (.int .i64 0)∧RdAt w' C s s.size true∧w.grownBy w' (some C):=by
 have HG:Hid _:=get_none s a hs h
 have HA:Hid _:=hA
 have HFl:Hid _:=fun W (q:Q w W)=>rdFail s hs a C fl W (hA.kept q)
 obtain ⟨c0,c1,c2,f1,f2,top⟩:=hA
 clear h
 go_enter Tryz.func97,Tryz.ntmps97
 go_wp2_with fail
 go_quiet ((go_at_call 132;refine Calls.quiet_of_same (HG.out _)))
 go_wp2_with fail
 refine (HFl.out _ ((Q.refl _).drewN _)).mono ?_
 rintro e w1 ⟨rfl,hA1,g1⟩
 go_wp2_with fail
 go_ret
 exact ⟨rfl,hA1,grown_trans (grown_of_q ((Q.refl _).drewN _) _) g1⟩
theorem rdNum (s:ByteArray) (hs:s.size≤140737488351232) (a C most:Nat) (fl:Bool) (w:World) (hA:RdAt w C s a fl) :
  Calls Tryz.prog 97 #[.pointer (some ⟨C,0,none⟩),.int .i64 (most:Int)] w fun e w'=>e=.returned (.int .i64 ((numTo s.data.toList most a).1:Int))∧RdAt w' C s (numTo s.data.toList most a).2 (fl || numBad s.data.toList most a)∧w.grownBy w' (some C):=by
 have hl:s.data.toList.length=s.size:=by simp
 unfold numTo numBad
 cases h:M.getAt s.data.toList a with
 | none =>
  simp only [Bool.or_true,hl]
  exact rdNum_none s hs a C most fl h w hA
 | some p =>
  obtain ⟨v,nx⟩:=p
  by_cases hm:most<v
  ·simp only [hm,if_true,decide_true,Bool.or_true,hl]
   exact rdNum_much s hs a v nx C most fl hm h w hA
  ·simp only [hm,if_false,decide_false,Bool.or_false]
   exact rdNum_some s hs a v nx C most fl (by omega) h w hA
theorem rdTxt_long (s:ByteArray) (hs:s.size≤140737488351232) (a C n:Nat) (fl:Bool) (hn:n<72057594037927936) (ha:a≤s.size) (hl:s.size-a<n) (w:World) (hA:RdAt w C s a fl) :
  Calls Tryz.prog 135 #[.pointer (some ⟨C,0,none⟩),.int .i64 (n:Int)] w fun e w'=>e=.returned (.string ⟨#[]⟩)∧RdAt w' C s s.size true∧w.grownBy w' (some C):=by
 have HFl:Hid _:=fun W (q:Q w W)=>rdFail s hs a C fl W (hA.kept q)
 obtain ⟨m,hm⟩:∃ m:Nat,m=s.size-a:=⟨_,rfl⟩
 have hw:IntKind.i64.wrap ((s.size:Int)-(a:Int))=(m:Int):=by rw [IntKind.wrap_i64];omega
 have hd:decide (m<n)=true:=by simp;omega
 obtain ⟨c0,c1,c2,f1,f2,top⟩:=hA
 go_enter Tryz.func135,Tryz.ntmps135
 go_wp2_with fail
 go_quiet (fail)
 go_wp2_with fail
 refine (HFl.out _ ((Q.refl _).drewN _)).mono ?_
 rintro e w1 ⟨rfl,hA1,g1⟩
 go_wp2_with fail
 go_ret
 exact ⟨rfl,hA1,grown_trans (grown_of_q ((Q.refl _).drewN _) _) g1⟩
theorem rdTxt_good (s:ByteArray) (hs:s.size≤140737488351232) (a C n:Nat) (fl:Bool) (ha:a+n≤s.size) (w:World) (hA:RdAt w C s a fl) :
  Calls Tryz.prog 135 #[.pointer (some ⟨C,0,none⟩),.int .i64 (n:Int)] w fun e w'=>e=.returned (.string (s.extract a (a+n)))∧RdAt w' C s (a+n) fl∧w.grownBy w' (some C):=by
 have HA:Hid _:=hA
 obtain ⟨m,hm⟩:∃ m:Nat,m=s.size-a:=⟨_,rfl⟩
 obtain ⟨z,hz⟩:∃ z:Nat,z=a+n:=⟨_,rfl⟩
 have hw:IntKind.i64.wrap ((s.size:Int)-(a:Int))=(m:Int):=by rw [IntKind.wrap_i64];omega
 have he:IntKind.i64.wrap ((a:Int)+(n:Int))=(z:Int):=by rw [IntKind.wrap_i64];omega
 have hd:decide (m<n)=false:=by simp;omega
 have b1:(a:Int)≤(z:Int):=by omega
 have b2:(z:Int)≤(s.size:Int):=by omega
 have hx:(a:Int)+(n:Int)=(z:Int):=by omega
 rw [←hz]
 obtain ⟨c0,c1,c2,f1,f2,top⟩:=hA
 clear hz hm
 go_enter Tryz.func135,Tryz.ntmps135
 go_wp2_with fail
 go_quiet (fail)
 go_wp2_with fail
 go_quiet (fail)
 go_wp2_with fail
 go_ret
 exact ⟨rfl,(HA.out.kept ((Q.refl _).drewN _)).moved z,grown_set (grown_of_q ((Q.refl _).drewN _) _) _⟩
theorem rdTxt (s:ByteArray) (hs:s.size≤140737488351232) (a C n:Nat) (fl:Bool) (hn:n<72057594037927936) (ha:a≤s.size) (w:World) (hA:RdAt w C s a fl) :
  Calls Tryz.prog 135 #[.pointer (some ⟨C,0,none⟩),.int .i64 (n:Int)] w fun e w'=>e=.returned (.string ⟨(bytTo s.data.toList n a).1.toArray⟩)∧RdAt w' C s (bytTo s.data.toList n a).2 (fl || bytBad s.data.toList n a)∧w.grownBy w' (some C):=by
 have hl:s.data.toList.length=s.size:=by simp
 unfold bytTo bytBad
 rw [hl]
 by_cases h:s.size-a<n
 ·rw [if_pos h,decide_eq_true h,Bool.or_true]
  exact rdTxt_long s hs a C n fl hn ha h w hA
 ·rw [if_neg h,decide_eq_false h,Bool.or_false]
  have:=rdTxt_good s hs a C n fl (by omega) w hA
  have e:s.extract a (a+n)=⟨((s.data.toList.drop a).take n).toArray⟩:=by
   apply ByteArray.ext
   apply Array.toList_inj.1
   simp
  rw [e] at this
  exact this
def RdIn (w:World) (C:Nat) (s:ByteArray) (a:Nat):Prop:=∃ fl,RdAt w C s a fl
theorem RdIn.top {w:World} {C a:Nat} {s:ByteArray} (h:RdIn w C s a):C<w.heap.size:=by obtain ⟨_,h⟩:=h;exact h.top
theorem RdIn.kept {w w':World} {C a:Nat} {s:ByteArray} (h:RdIn w C s a) (q:Q w w'):RdIn w' C s a:=by obtain ⟨fl,h⟩:=h;exact ⟨fl,h.kept q⟩
theorem RdIn.grown {w w':World} {C a:Nat} {s:ByteArray} {row:Option Nat} (h:RdIn w C s a) (hg:w.grownBy w' row) (hne:row≠some C):RdIn w' C s a:=by obtain ⟨fl,h⟩:=h;exact ⟨fl,h.grown hg hne⟩
theorem rdNumIn (s:ByteArray) (hs:s.size≤140737488351232) (a C most:Nat) (w:World) (hA:RdIn w C s a) :
  Calls Tryz.prog 97 #[.pointer (some ⟨C,0,none⟩),.int .i64 (most:Int)] w fun e w'=>e=.returned (.int .i64 ((numTo s.data.toList most a).1:Int))∧RdIn w' C s (numTo s.data.toList most a).2∧w.grownBy w' (some C):=by
 obtain ⟨fl,h⟩:=hA
 refine (rdNum s hs a C most fl w h).mono ?_
 rintro e w' ⟨h1,h2,h3⟩
 exact ⟨h1,⟨_,h2⟩,h3⟩
theorem rdTxtIn (s:ByteArray) (hs:s.size≤140737488351232) (a C n:Nat) (hn:n<72057594037927936) (ha:a≤s.size) (w:World) (hA:RdIn w C s a) :
  Calls Tryz.prog 135 #[.pointer (some ⟨C,0,none⟩),.int .i64 (n:Int)] w fun e w'=>e=.returned (.string ⟨(bytTo s.data.toList n a).1.toArray⟩)∧RdIn w' C s (bytTo s.data.toList n a).2∧w.grownBy w' (some C):=by
 obtain ⟨fl,h⟩:=hA
 refine (rdTxt s hs a C n fl hn ha w h).mono ?_
 rintro e w' ⟨h1,h2,h3⟩
 exact ⟨h1,⟨_,h2⟩,h3⟩
theorem rdMore (s:ByteArray) (a C:Nat) (fl:Bool) (w:World) (hA:RdAt w C s a fl) :
  Calls Tryz.prog 134 #[.pointer (some ⟨C,0,none⟩)] w fun e w'=>e=.returned (.bool (decide (a<s.size)))∧Q w w':=by
 obtain ⟨c0,c1,c2,f1,f2,top⟩:=hA
 by_cases h:a<s.size
 ·have hI:(a:Int)<(s.size:Int):=by omega
  have hd:decide (a<s.size)=true:=by simpa using h
  rw [hd]
  go_enter Tryz.func134,Tryz.ntmps134
  go_wp2_with fail
  go_quiet (fail)
  go_wp2_with fail
  go_ret
  exact ⟨by simp_all,(Q.refl _).drewN _⟩
 ·have hI:¬(a:Int)<(s.size:Int):=by omega
  have hd:decide (a<s.size)=false:=by simpa using h
  rw [hd]
  go_enter Tryz.func134,Tryz.ntmps134
  go_wp2_with fail
  go_quiet (fail)
  go_wp2_with fail
  go_ret
  exact ⟨by simp_all,(Q.refl _).drewN _⟩
theorem rdFailed (s:ByteArray) (a C:Nat) (fl:Bool) (w:World) (hA:RdAt w C s a fl) :
  Calls Tryz.prog 136 #[.pointer (some ⟨C,0,none⟩)] w fun e w'=>e=.returned (.bool fl)∧w'=w:=by
 obtain ⟨c0,c1,c2,f1,f2,top⟩:=hA
 go_enter Tryz.func136,Tryz.ntmps136
 go_wp2_with fail
 go_ret
 exact ⟨rfl,rfl⟩
theorem record_any (s:ByteArray) (hs:s.size≤140737488351232) (ah:ByteArray) (hah:ah.size≤140737488351232) (a C:Nat) (ha:a≤s.size) (w:World) (hA:RdIn w C s a) :
  Calls Tryz.prog 167 #[.pointer (some ⟨C,0,none⟩),.string ah] w fun e w'=>e=.returned (recTo s.data.toList ah.data.toList a).1.val∧RdIn w' C s (recTo s.data.toList ah.data.toList a).2∧w.grownBy w' (some C):=by
 have hlen:s.data.toList.length=s.size:=by simp
 have hal:ah.data.toList.length=ah.size:=by simp
 have hTl:a≤s.data.toList.length:=by omega
 obtain ⟨⟨k,a1⟩,h1⟩:∃ p,p=numTo s.data.toList ah.data.toList.length a:=⟨_,rfl⟩
 have l1:=numTo_le (T:=s.data.toList) (most:=ah.data.toList.length) hTl
 rw [←h1] at l1
 obtain ⟨⟨m,a2⟩,h2⟩:∃ p,p=numTo s.data.toList 64 a1:=⟨_,rfl⟩
 have l2:=numTo_le (T:=s.data.toList) (most:=64) l1.1
 rw [←h2] at l2
 obtain ⟨⟨t,a3⟩,h3⟩:∃ p,p=bytTo s.data.toList m a2:=⟨_,rfl⟩
 have l3:=bytTo_le (T:=s.data.toList) (n:=m) l2.1
 rw [←h3] at l3
 obtain ⟨⟨st,a4⟩,h4⟩:∃ p,p=numTo s.data.toList 1099511627776 a3:=⟨_,rfl⟩
 have l4:=numTo_le (T:=s.data.toList) (most:=1099511627776) l3.1
 rw [←h4] at l4
 obtain ⟨⟨kd,a5⟩,h5⟩:∃ p,p=numTo s.data.toList 2 a4:=⟨_,rfl⟩
 have l5:=numTo_le (T:=s.data.toList) (most:=2) l4.1
 rw [←h5] at l5
 obtain ⟨⟨z,a6⟩,h6⟩:∃ p,p=numTo s.data.toList 4200 a5:=⟨_,rfl⟩
 have l6:=numTo_le (T:=s.data.toList) (most:=4200) l5.1
 rw [←h6] at l6
 obtain ⟨⟨bd,a7⟩,h7⟩:∃ p,p=bytTo s.data.toList z a6:=⟨_,rfl⟩
 have N1:Hid _:=rdNumIn s hs a C ah.data.toList.length
 have N2:Hid _:=rdNumIn s hs a1 C 64
 have X3:Hid _:=rdTxtIn s hs a2 C m l2.2.2 (by rw [←hlen];exact l2.1)
 have N4:Hid _:=rdNumIn s hs a3 C 1099511627776
 have N5:Hid _:=rdNumIn s hs a4 C 2
 have N6:Hid _:=rdNumIn s hs a5 C 4200
 have X7:Hid _:=rdTxtIn s hs a6 C z l6.2.2 (by rw [←hlen];exact l6.1)
 rw [←h1,hal] at N1
 rw [←h2] at N2
 rw [←h3] at X3
 rw [←h4] at N4
 rw [←h5] at N5
 rw [←h6] at N6
 rw [←h7] at X7
 have E:recTo s.data.toList ah.data.toList a=(⟨⟨(ah.data.toList.take k++t).toArray⟩,(st:Int),(kd:Int),⟨bd.toArray⟩⟩,a7):=by
  unfold recTo
  simp only [←h1]
  simp only [←h2]
  simp only [←h3]
  simp only [←h4]
  simp only [←h5]
  simp only [←h6]
  simp only [←h7]
 rw [E]
 have hk:k≤ah.size:=by rw [←hal];exact l1.2.1
 have ht:t.length≤64:=by have:=l3.2;have:=l2.2.1;simp only at *;omega
 have hkey:ah.extract 0 k++⟨t.toArray⟩=(⟨(ah.data.toList.take k++t).toArray⟩:ByteArray):=by
  apply ByteArray.ext
  apply Array.toList_inj.1
  simp
 simp only [Rec.val]
 rw [←hkey]
 have hts:(⟨t.toArray⟩:ByteArray).size=t.length:=rfl
 have hadd:∀ W,(Op.stringOp .add (ah.extract 0 k) ⟨t.toArray⟩).run Tryz.prog W=.ok (.string (ah.extract 0 k++⟨t.toArray⟩)) W:=fun W=>run_string_add_sum W _ _ (by rw [hts];simp;omega)
 generalize (⟨t.toArray⟩:ByteArray)=tx at *
 generalize (⟨bd.toArray⟩:ByteArray)=bx at *
 obtain ⟨key,hke⟩:∃ key,key=ah.extract 0 k++tx:=⟨_,rfl⟩
 rw [←hke] at hadd ⊢
 have hC:=hA.top
 have hA0:=hA.kept ((Q.refl w).alloc #[.string ⟨#[]⟩,.int .i64 0,.int .i64 0,.string ⟨#[]⟩] 62)
 have hV0:=var4_new w (.string ⟨#[]⟩) (.int .i64 0) (.int .i64 0) (.string ⟨#[]⟩) 62
 have hCR:(some C:Option Nat)≠some w.heap.size:=by simp;omega
 have hkI:(k:Int)≤(ah.size:Int):=by omega
 clear h1 h2 h3 h4 h5 h6 h7 l1 l2 l3 l4 l5 l6 E hTl hts hkey hke hA ht
 go_enter Tryz.func167,Tryz.ntmps167
 go_wp2_with fail
 refine (N1.out _ hA0).mono ?_
 rintro e w1 ⟨rfl,hA1',g1⟩
 have hV1:=hV0.grown g1 hCR
 have hA1:=hA1'.kept (Q.refl _).drew
 go_upto_region 2 with fail
 refine wp_region_held_drew (S:=fun _=>True) (by kernel_rfl) trivial (fun hHeld=>?_)
 refine tk3 (i:=0) (v:=?_) rfl (Or.inl ⟨by kernel_rfl,?_⟩) hHeld ?_
 rotate_left
 ·(intro w hSw;(try dsimp only at hSw);go_simp;try with_reducible rfl)
 try simp only [Act.put,nrm]
 refine tk3 (i:=1) (v:=?_) rfl (Or.inl ⟨by kernel_rfl,?_⟩) hHeld ?_
 rotate_left
 ·(intro w hSw;(try dsimp only at hSw);go_simp;try with_reducible rfl)
 try simp only [Act.put,nrm]
 refine tk3 (i:=2) (v:=?_) rfl (Or.inl ⟨by kernel_rfl,?_⟩) hHeld ?_
 rotate_left
 ·(intro w hSw;(try dsimp only at hSw);go_simp;try with_reducible rfl)
 try simp only [Act.put,nrm]
 refine tk3 (i:=3) (v:=?_) rfl (Or.inl ⟨by kernel_rfl,?_⟩) hHeld ?_
 rotate_left
 ·(intro w hSw;(try dsimp only at hSw);go_simp;try with_reducible rfl)
 try simp only [Act.put,nrm]
 refine tk3 (i:=4) (v:=?_) rfl (Or.inl ⟨by kernel_rfl,?_⟩) hHeld ?_
 rotate_left
 ·(intro w hSw;(try dsimp only at hSw);go_simp;try with_reducible rfl)
 try simp only [Act.put,nrm]
 refine tk3 (i:=8) (v:=?_) rfl (Or.inl ⟨by kernel_rfl,?_⟩) hHeld ?_
 rotate_left
 ·(intro w hSw;(try dsimp only at hSw);go_simp;try with_reducible rfl)
 try simp only [Act.put,nrm]
 refine tk3 (i:=10) (v:=?_) rfl (Or.inl ⟨by kernel_rfl,?_⟩) hHeld ?_
 rotate_left
 ·(intro w hSw;(try dsimp only at hSw);go_simp;try with_reducible rfl)
 try simp only [Act.put,nrm]
 refine tk3 (i:=12) (v:=?_) rfl (Or.inl ⟨by kernel_rfl,?_⟩) hHeld ?_
 rotate_left
 ·(intro w hSw;(try dsimp only at hSw);go_simp;try with_reducible rfl)
 try simp only [Act.put,nrm]
 refine tk3 (i:=13) (v:=?_) rfl (Or.inl ⟨by kernel_rfl,?_⟩) hHeld ?_
 rotate_left
 ·(intro w hSw;(try dsimp only at hSw);go_simp;try with_reducible rfl)
 try simp only [Act.put,nrm]
 refine wpAnyH_ready (rs:=[5]) (by kernel_rfl) (by simp) ?_
 refine AllReadyH.cons rfl (fun K hK=>?_) AllReadyH.nil
 go_simp
 refine (N2.out _ hA1).mono ?_
 rintro e w2 ⟨rfl,hA2,g2⟩
 try go_wp2_with fail
 refine hK.out _ _ trivial (fun hHeld0=>?_)
 clear hK K hHeld
 have hHeld:=hHeld0
 clear hHeld0
 try simp only [Act.put,nrm]
 refine wpAnyH_ready (rs:=[6]) (by kernel_rfl) (by simp) ?_
 refine AllReadyH.cons rfl (fun K hK=>?_) AllReadyH.nil
 go_simp
 refine (X3.out _ hA2).mono ?_
 rintro e w3 ⟨rfl,hA3,g3⟩
 try go_wp2_with fail
 refine hK.out _ _ trivial (fun hHeld0=>?_)
 clear hK K hHeld
 have hHeld:=hHeld0
 clear hHeld0
 try simp only [Act.put,nrm]
 refine tk3 (i:=7) (v:=?_) rfl (Or.inl ⟨by kernel_rfl,?_⟩) hHeld ?_
 rotate_left
 ·(intro w hSw;(try dsimp only at hSw);go_simp;try with_reducible rfl)
 try simp only [Act.put,nrm]
 refine wpAnyH_ready (rs:=[9]) (by kernel_rfl) (by simp) ?_
 refine AllReadyH.cons rfl (fun K hK=>?_) AllReadyH.nil
 go_simp
 refine (N4.out _ hA3).mono ?_
 rintro e w4 ⟨rfl,hA4,g4⟩
 try go_wp2_with fail
 refine hK.out _ _ trivial (fun hHeld0=>?_)
 clear hK K hHeld
 have hHeld:=hHeld0
 clear hHeld0
 try simp only [Act.put,nrm]
 refine wpAnyH_ready (rs:=[11]) (by kernel_rfl) (by simp) ?_
 refine AllReadyH.cons rfl (fun K hK=>?_) AllReadyH.nil
 go_simp
 refine (N5.out _ hA4).mono ?_
 rintro e w5 ⟨rfl,hA5,g5⟩
 try go_wp2_with fail
 refine hK.out _ _ trivial (fun hHeld0=>?_)
 clear hK K hHeld
 have hHeld:=hHeld0
 clear hHeld0
 try simp only [Act.put,nrm]
 refine wpAnyH_ready (rs:=[14]) (by kernel_rfl) (by simp) ?_
 refine AllReadyH.cons rfl (fun K hK=>?_) AllReadyH.nil
 go_simp
 refine (N6.out _ hA5).mono ?_
 rintro e w6 ⟨rfl,hA6,g6⟩
 try go_wp2_with fail
 refine hK.out _ _ trivial (fun hHeld0=>?_)
 clear hK K hHeld
 have hHeld:=hHeld0
 clear hHeld0
 try simp only [Act.put,nrm]
 refine wpAnyH_ready (rs:=[15]) (by kernel_rfl) (by simp) ?_
 refine AllReadyH.cons rfl (fun K hK=>?_) AllReadyH.nil
 go_simp
 refine (X7.out _ hA6).mono ?_
 rintro e w7 ⟨rfl,hA7,g7⟩
 try go_wp2_with fail
 refine hK.out _ _ trivial (fun hHeld0=>?_)
 clear hK K hHeld
 have hHeld:=hHeld0
 clear hHeld0
 try simp only [Act.put,nrm]
 refine tk3 (i:=16) (v:=?_) rfl (Or.inl ⟨by kernel_rfl,?_⟩) hHeld ?_
 rotate_left
 ·(intro w hSw;(try dsimp only at hSw);go_simp;try with_reducible rfl)
 try simp only [Act.put,nrm]
 have hV:=(((((hV1.grown (grown_drew g2) hCR).grown g3 hCR).grown g4 hCR).grown g5 hCR).grown g6 hCR).grown g7 hCR
 have r0:=hV.c0
 have r1:=hV.c1
 have r2:=hV.c2
 have r3:=hV.c3
 have r4:=hV.fr 0
 have r5:=hV.fr 1
 have r6:=hV.fr 2
 have r7:=hV.fr 3
 refine wpAnyH_ready (rs:=[17]) (by kernel_rfl) (by simp) ?_
 refine AllReadyH.cons rfl (fun K hK=>?_) AllReadyH.nil
 go_simp
 have hVs:=hV.set (.string key) (.int .i64 (st:Int)) (.int .i64 (kd:Int)) (.string bx)
 have hgs:=set4_grown w7 w.heap.size (.string key) (.int .i64 (st:Int)) (.int .i64 (kd:Int)) (.string bx)
 generalize ((((w7.setCell ⟨w.heap.size,0,none⟩ (.string key)).setCell ⟨w.heap.size,1,none⟩ (.int .i64 (st:Int))).setCell ⟨w.heap.size,2,none⟩ (.int .i64 (kd:Int))).setCell ⟨w.heap.size,3,none⟩ (.string bx))=wz at *
 refine hK.out _ _ trivial (fun hHeld0=>?_)
 clear hK K hHeld hHeld0
 refine wpAnyH_done (by kernel_rfl) ?_ _
 have y0:=hVs.c0
 have y1:=hVs.c1
 have y2:=hVs.c2
 have y3:=hVs.c3
 go_wp2_with fail
 refine bodyPost_ret (v:=.agg #[.string key,.int .i64 (st:Int),.int .i64 (kd:Int),.string bx]) (by simp [results,Tryz.results167,go_sem,y0,y1,y2,y3]) rfl ?_
 refine ⟨rfl,hA7.grown hgs (by simp;omega),?_⟩
 have G:=grown_trans (grown_trans (grown_trans (grown_trans (grown_trans (grown_trans g1 (grown_drew g2)) g3) g4) g5) g6) g7
 refine ⟨hgs.os.trans G.os,hgs.tape.trans G.tape,hgs.output.trans G.output,?_,fun b hb hne=>?_⟩
 ·have h1:=G.size
  have h2:=hgs.size
  simp at h1
  omega
 ·have h1:=G.size
  simp at h1
  exact (hgs.block b (by omega) (by simp;omega)).trans ((G.block b (by simp;omega) hne).trans (heap_alloc_old w _ hb))
structure Rdg (w:World) (C:Nat) (s:ByteArray) (a:Nat) (l:List Rec) (ao:Option Addr) (cap:Nat) (wr:World):Prop where
 below:Below C w wr
 low:w.heap.size≤C
 rd:RdIn wr C s a
 own:wr.ownsRow (C+1) 62 4 (.slice ao l.length cap) l.length (recCells l)
theorem Rdg.next {w wr w':World} {C a a':Nat} {s:ByteArray} {l:List Rec} {ao:Option Addr} {cap:Nat} (h:Rdg w C s a l ao cap wr) (hg:wr.grownBy w' (some C)) (hs:RdIn w' C s a'):Rdg w C s a' l ao cap w':=by
 refine ⟨h.below.grown hg (Nat.le_of_lt h.rd.top) (fun k hk=>by simp at hk;omega),h.low,hs,h.own.kept hg ?_⟩
 rcases hb:(Value.slice ao l.length cap).ownBlock with _|k
 ·exact Or.inl rfl
 ·right
  have:=(h.own.lt k hb).1
  simp
  omega
theorem Rdg.kept {w wr w':World} {C a:Nat} {s:ByteArray} {l:List Rec} {ao:Option Addr} {cap:Nat} (h:Rdg w C s a l ao cap wr) (q:Q wr w'):Rdg w C s a l ao cap w':=
 ⟨h.below.trans (q.below.mono (Nat.le_of_lt h.rd.top)),h.low,h.rd.kept q,own_below h.own q.below⟩
theorem Rdg.q {w wr:World} {C a:Nat} {s:ByteArray} {l:List Rec} {ao:Option Addr} {cap:Nat} (h:Rdg w C s a l ao cap wr):Q w wr:=⟨h.below.mono h.low⟩
theorem Rdg.push {w wr w':World} {C a:Nat} {s:ByteArray} {l:List Rec} {r:Rec} {ao ao':Option Addr} {cap cap':Nat} (h:Rdg w C s a l ao cap wr)
  (hg:wr.grownBy w' (Value.slice ao l.length cap).ownBlock)
  (ho:w'.ownsRow (C+1) 62 4 (.slice ao' (l.length+1) cap') (l.length+1) (recCells l++r.cells)):Rdg w C s a (l++[r]) ao' cap' w':=by
 have hlow:∀ k,(Value.slice ao l.length cap).ownBlock=some k→C<k:=fun k hk=>(h.own.lt k hk).1
 refine ⟨h.below.grown hg (Nat.le_of_lt h.rd.top) (fun k hk=>by have:=hlow k hk;omega),h.low,h.rd.grown hg (fun e=>by have:=hlow C e;omega),?_⟩
 rw [recCells_append,recCells_one,List.length_append]
 exact ho
theorem aheadKey_data (l:List Rec) (k:Nat):(aheadKey l k).data.toList=aheadAt l k:=by
 unfold aheadKey aheadAt
 by_cases h:k % 8=0
 ·rw [if_pos h,if_pos h]
 ·rw [if_neg h,if_neg h]
  match k with
  | 0=>simp at h
  | k+1 =>
   simp only [Nat.add_sub_cancel,lastAt]
   cases l[k]? with
   | none=>rfl
   | some r=>rfl
theorem read_any (s:ByteArray) (hs:s.size≤140737488351232) (w:World) :
  Calls Tryz.prog 137 #[.string s] w fun e w'=>(∃ (ao:Option Addr) (cap:Nat),e=.returned (.slice ao (readAllTo s.data.toList).length cap)∧w'.ownsRow (w.heap.size+1) 62 4 (.slice ao (readAllTo s.data.toList).length cap) (readAllTo s.data.toList).length (recCells (readAllTo s.data.toList)))∧Q w w':=by
 have hlen:s.data.toList.length=s.size:=by simp
 have l0:=numTo_le (T:=s.data.toList) (most:=64) (a:=0) (by omega)
 obtain ⟨⟨n,a0⟩,h0⟩:∃ p,p=numTo s.data.toList 64 0:=⟨_,rfl⟩
 have N0:Hid _:=rdNumIn s hs 0 w.heap.size 64
 have E:readAllTo s.data.toList=(rdTo s.data.toList a0 n).1:=by unfold readAllTo;rw [←h0]
 rw [←h0] at N0 l0
 simp only at l0
 rw [E]
 have HB:Hid (∀ i,(rdTo s.data.toList a0 i).2≤s.size∧∀ (j:Nat) (r:Rec),(rdTo s.data.toList a0 i).1[j]?=some r→r.key.size≤64*(j+1)):=fun i=>by
  have:=rdTo_le (T:=s.data.toList) (a0:=a0) (by omega) i
  exact ⟨by omega,fun j r hj=>(this.2 j r hj).1⟩
 have HL:Hid (∀ i,(rdTo s.data.toList a0 i).1.length=i):=rdTo_length _ _
 have HN:Hid (∀ i,rdTo s.data.toList a0 (i+1)=((rdTo s.data.toList a0 i).1++[(recTo s.data.toList (aheadAt (rdTo s.data.toList a0 i).1 i) (rdTo s.data.toList a0 i).2).1],(recTo s.data.toList (aheadAt (rdTo s.data.toList a0 i).1 i) (rdTo s.data.toList a0 i).2).2)):=fun i=>rfl
 have HR:Hid _:=record_any s hs
 have HKA:Hid _:=keyAhead_any
 obtain ⟨i0,hi,hz0,hz1,hz2⟩:=info_parts infoRecord
 have hMk:=fun W=>run_make_own (P:=Tryz.prog) W (w.heap.size+1) 72 62 i0 (.agg #[.string ⟨#[]⟩,.int .i64 0,.int .i64 0,.string ⟨#[]⟩]) 4 Tryz.underlying72 hi hz0 hz1 .i64 .i64 n (by rw [hz2];omega) (by unfold maxLen;omega)
 have HM:Hid _:=hMk
 clear hMk h0 E
 have HRd:Hid _:=fun (_:Unit)=>rdRead s w
 go_enter Tryz.func137,Tryz.ntmps137
 go_wp2_with fail
 refine (HRd.out ()).mono ?_
 rintro e w0 ⟨rfl,hA0,q0⟩
 clear HRd
 go_wp2_with fail
 refine (N0.out _ ⟨_,hA0⟩).mono ?_
 rintro e w1 ⟨rfl,hA1,g1⟩
 have ht0:=hA0.top
 have hs1:w.heap.size+1≤w1.heap.size:=by have:=g1.size;omega
 obtain ⟨w2,hrun,hown,hgr⟩:=HM.out w1 (by omega)
 have hrd2:=hA1.grown hgr (by simp)
 have hP0:Rdg w w.heap.size s (rdTo s.data.toList a0 0).2 (rdTo s.data.toList a0 0).1 (some ⟨w1.heap.size,0,none⟩) n w2:=by
  refine ⟨?_,Nat.le_refl _,hrd2,hown⟩
  exact (q0.below.grown g1 (by omega) (by simp)).grown hgr (by omega) (by simp)
 clear hown hgr hrd2 hA1 g1 hA0 q0
 go_wp2_with fail
 go_loopw [5,14] (fun p i wr=>∃ (k:Nat) (ap:Option Addr) (cp:Nat),k≤n∧i=.int .i64 k∧p=.slice ap k cp∧Hid (Rdg w w.heap.size s (rdTo s.data.toList a0 k).2 (rdTo s.data.toList a0 k).1 ap cp wr)) (fun _ i _=>n-(intOf i).toNat)
 case atStart=>exact ⟨0,_,_,Nat.zero_le _,rfl,rfl,hP0⟩
 case round =>
  obtain ⟨k,ap,cp,hk,rfl,rfl,HP⟩:=hrel
  by_cases hlt:k<n
  ·have hB:=HB.out k
   have hL:=HL.out k
   have hN:=HN.out k
   have hP:=HP.out
   generalize rdTo s.data.toList a0 k=pr at *
   obtain ⟨l,a⟩:=pr
   simp only at hB hL hN hP
   have hown:=hP.own
   have KA:=HKA.out l ap l.length cp l.length (Nat.le_refl _) (Or.inl (Nat.le_refl _)) (by omega) (fun _=>Nat.le_refl _) wr (by
    by_cases hne:l=[]
    ·exact Or.inl hne
    ·obtain ⟨g,rfl,hlt,hr⟩:=own_recs hown hne
     exact Or.inr ⟨g,0,rfl,hr⟩)
   have hkb:(aheadKey l l.length).size≤4096:=by
    unfold aheadKey
    split
    ·exact Nat.zero_le _
    ·cases hx:l[l.length-1]? with
     | none=>exact Nat.zero_le _
     | some r =>
      have:=hB.2 _ r hx
      show r.key.size≤4096
      omega
   have REC:=fun W=>HR.out (aheadKey l l.length) (by omega) a w.heap.size hB.1 W
   rw [aheadKey_data] at REC
   rw [hL] at KA REC hkb
   generalize aheadKey l k=ah at *
   obtain ⟨⟨r,a'⟩,hrec⟩:∃ p,p=recTo s.data.toList (aheadAt l k) a:=⟨_,rfl⟩
   rw [←hrec] at REC hN
   simp only [Rec.val] at REC
   have HKA2:Hid _:=fun (_:Unit)=>KA
   have HREC:Hid _:=REC
   have HN2:Hid _:=hN
   clear KA REC hN hrec HP
   go_wp2_with fail
   refine (HKA2.out ()).mono ?_
   rintro e w3 ⟨rfl,q3⟩
   have hP3:=hP.kept q3
   go_wp2_with fail
   refine (HREC.out _ hP3.rd).mono ?_
   rintro e w4 ⟨rfl,rd4,g4⟩
   have hP4:=hP3.next g4 rd4
   have hP5:=hP4.kept ((Q.refl w4).alloc #[.string r.key,.int .i64 r.stamp,.int .i64 r.kind,.string r.body] 62)
   have hown5:=hP5.own
   have hsz:w.heap.size+1≤w4.heap.size:=by have:=hP4.rd.top;omega
   clear hP hP3 hP4 hown
   go_wp2_with (at_builtin;refine wpList_append_own _ rfl (.tmp 17) (.tmp 23) 72 rfl (w.heap.size+1) 62 i0 (.agg #[.string ⟨#[]⟩,.int .i64 0,.int .i64 0,.string ⟨#[]⟩]) 4 48 Tryz.underlying72 hi hz0 hz1 hz2 rfl (by decide) _ _ _ (congrArg (fun n=>Value.slice ap n cp) hL.symm) hown5 ⟨w4.heap.size,0,none⟩ 1 1 r.cells rfl rfl ?c1 ?c2 ?c3 ?c4 ?c5 ?_)
   case c1=>exact rec_cells_at _ _ _
   case c2=>exact rec_cells_one _
   case c3=>unfold maxLen;omega
   case c4=>omega
   case c5=>simp;omega
   intro v' w' hown' hgrow _
   obtain ⟨ao3,cap3,hv⟩:=own_form hown'
   rw [hv] at hown'
   rw [hv]
   rw [←hL] at hown' hgrow
   have hp2:=hP5.push hgrow hown'
   clear hown' hgrow hv
   go_wp2_with fail
   go_roundw
   case rel=>exact ⟨k+1,ao3,cap3,by omega,by go_num,rfl,by rw [HN2.out];exact hp2⟩
   case measure=>simp [intOf];omega
  ·obtain rfl:k=n:=by omega
   have hL:=HL.out k
   have hP:=HP.out
   have HF:Hid (w.heap.size=w.heap.size):=rfl
   go_wp2_with fail
   go_ret
   exact ⟨⟨ap,cp,rfl,by have:=hP.own;rw [hL] at this;exact this⟩,hP.q⟩
end Go.Proofs.YtekdenkllipehabGreatDoor
namespace Go.Proofs.YtekdenkllipehabGreatDoor
open Go.Shelf
def laysBi_ren:Go.Shelf.Ren:=⟨fun | 25=>81 | 31=>113 | 32=>114 | 37=>148 | n=>n,fun | 0=>0 | 3=>3 | 4=>4 | 22=>51 | 40=>177 | n=>n,fun n=>n⟩
theorem laysBi:Lays2.n25 Tryz.prog laysBi_ren:={
 mixed:=by kernel_rfl
 f25:=Tryz.func81.trans (congrArg some (by kernel_rfl))
 f31:=Tryz.func113.trans (congrArg some (by kernel_rfl))
 f32:=Tryz.func114.trans (congrArg some (by kernel_rfl))
 f37:=Tryz.func148.trans (congrArg some (by kernel_rfl))
 t0:=Tryz.underlying0
 a0:=Tryz.isAgg0
 z0:=Tryz.sizeOf0
 v0:=Tryz.zeroValue0
 t3:=Tryz.underlying3
 a3:=Tryz.isAgg3
 z3:=Tryz.sizeOf3
 v3:=Tryz.zeroValue3
 t4:=Tryz.underlying4
 a4:=Tryz.isAgg4
 z4:=Tryz.sizeOf4
 v4:=Tryz.zeroValue4
 t22:=Tryz.underlying51
 a22:=Tryz.isAgg51
 z22:=Tryz.sizeOf51
 v22:=Tryz.zeroValue51
 t40:=Tryz.underlying177
 a40:=Tryz.isAgg177
 z40:=Tryz.sizeOf177
 v40:=Tryz.zeroValue177 }
end Go.Proofs.YtekdenkllipehabGreatDoor
