import Derived.Test.YtekdenkllipehabGreatDoorK15
import Derived.Test.YtekdenkllipehabGreatDoorK16
set_option maxRecDepth 100000
set_option maxHeartbeats 8000000
namespace Go.Proofs.YtekdenkllipehabGreatDoor
open Go.RowKit
theorem bsearch_nil (nm:ByteArray) (w:World) :
  Calls Tryz.prog 78 #[.slice none 0 0,.string nm] w fun e w'=>e=.returned (.tuple #[.int .i64 0,.bool false])∧Q w w':=by
 go_enter Tryz.func78,Tryz.ntmps78
 go_wp2_with fail
 go_loopw [7,8] (fun a b wr=>a=.int .i64 0∧b=.int .i64 0∧wr=w) (fun _ _ _=>0)
 case atStart=>exact ⟨rfl,rfl,rfl⟩
 case round =>
  obtain ⟨rfl,rfl,rfl⟩:=hrel
  go_wp2_with fail
  go_ret2
  exact ⟨rfl,Q.refl _⟩
theorem bsearch (fs:List M.Fil) (hs:M.Sorted fs) (hl:fs.length≤64) (nm:ByteArray) (ao:Option Addr) (cap:Nat) (w:World) (hr:w.ownsRow 0 9 1 (.slice ao fs.length cap) fs.length (strVals (namesOf fs))) :
  Calls Tryz.prog 78 #[.slice ao fs.length cap,.string nm] w fun e w'=>e=.returned (.tuple #[.int .i64 (M.lowAt fs nm:Nat),.bool (M.place fs nm).isSome])∧Q w w':=by
 rcases hr.2 with ⟨hv,h0⟩|⟨g,c,cur,hv,_,hh,_⟩
 ·have hf:fs=[]:=List.eq_nil_of_length_eq_zero h0
  subst hf
  injection hv with e1 e2 e3
  subst e1 e3
  exact bsearch_nil nm w
 ·injection hv with e1 e2 e3
  subst e1 e3
  obtain ⟨Sx,hSx⟩:∃ Sx:Nat→ByteArray,Sx=fun t=>((fs[t]?).map fun f=>f.name).getD nm:=⟨_,rfl⟩
  have hc:∀ j,j<fs.length→w.cell? ⟨g,0+j,none⟩=some (.string (Sx j)):=fun j hj=>by
   rw [Nat.zero_add,hr.cellAt j (by omega),hSx]
   simp [strVals,namesOf,List.getElem?_eq_getElem hj]
  have hb:Lib.bsGo (fun t=>Op.bytesLess (Sx t).toList nm.toList) fs.length 0 fs.length=M.lowAt fs nm:=by
   refine Lib.bsGo_spec _ (M.lowAt fs nm) (fun t ht=>?_) (fun t ht=>?_) _ _ _ (by omega) (Nat.zero_le _) (M.lowAt_le fs nm)
   ·have hlt:t<fs.length:=Nat.lt_of_lt_of_le ht (M.lowAt_le fs nm)
    have:=M.lowAt_before (List.getElem?_eq_getElem hlt) ht
    rw [hSx]
    simpa [List.getElem?_eq_getElem hlt,M.ahead] using this
   ·rw [hSx]
    by_cases hlt:t<fs.length
    ·have:=M.lowAt_behind hs (List.getElem?_eq_getElem hlt) ht
     simpa [List.getElem?_eq_getElem hlt,M.ahead] using this
    ·simp [List.getElem?_eq_none (Nat.le_of_not_lt hlt),M.less_irrefl]
  have hC:=Any2.slices_BinarySearch_string laysBs g 0 fs.length cap Sx nm w (by omega) hc
  rw [hb] at hC
  refine Calls.mono hC ?_
  rintro e w' ⟨rfl,q,rfl⟩
  refine ⟨?_,Q.drewN (Q.refl w) q⟩
  have hd:decide (M.lowAt fs nm<fs.length∧Sx (M.lowAt fs nm)=nm)=(M.place fs nm).isSome:=by
   rw [M.place_found hs nm,hSx]
   by_cases hlt:M.lowAt fs nm<fs.length
   ·simp only [List.getElem?_eq_getElem hlt,Option.map_some,Option.getD_some,hlt,true_and]
    by_cases hn:fs[M.lowAt fs nm].name=nm
    ·simp [hn]
    ·simp [hn]
   ·simp [hlt]
  rw [hd]
def ptrAt (ps:List Nat):Option Nat→Value
 | some i=>.pointer ((ps[i]?).map fun p=>⟨p,0,none⟩)
 | none=>.pointer none
theorem mapGet (tg:Tags) (o d:Nat) (fs:List M.Fil) (ps:List Nat) (hs:M.Sorted fs) (hl:fs.length≤64) (nm:ByteArray) (w:World) (h:MapAt w tg o d (namesOf fs) ps) :
  Calls Tryz.prog 69 #[.pointer (some ⟨d,1,none⟩),.string nm] w fun e w'=>e=.returned (.tuple #[ptrAt ps (M.place fs nm),.bool (M.place fs nm).isSome])∧Q w w':=by
 have HM:Hid (MapAt w tg o d (namesOf fs) ps):=h
 obtain ⟨a1,k1,r1,r2,r3⟩:=h.keys
 rw [namesOf_length] at r1 r2
 have HB:Hid _:=fun (_:Unit)=>bsearch fs hs hl nm a1 k1 w r2
 cases hp:M.place fs nm with
 | none =>
  rw [hp] at HB
  clear h r2 r3
  go_enter Tryz.func69,Tryz.ntmps69
  go_wp2_with fail
  refine (HB.out ()).mono ?_
  rintro e w1 ⟨rfl,q1⟩
  go_wp2_with fail
  go_ret2
  exact ⟨rfl,q1⟩
 | some i =>
  rw [hp] at HB
  have hlow:=M.place_low hs hp
  obtain ⟨f,hf,_,_⟩:=M.place_some hp
  have hi:i<fs.length:=(List.getElem?_eq_some_iff.1 hf).1
  obtain ⟨g,cap,gv,capv,p,e1,e2,_,_,_,_,e3,_,e4⟩:=HM.out.at (i:=i) (by simpa using hi)
  rw [namesOf_length] at e2
  have e5:=e4 i p e3
  have hpt:ptrAt ps (some i)=.pointer (some ⟨p,0,none⟩):=by simp [ptrAt,e3]
  rw [hlow] at HB
  rw [hpt]
  clear h r2 r3 e1 e4 hp hlow hf
  go_enter Tryz.func69,Tryz.ntmps69
  go_wp2_with fail
  refine (HB.out ()).mono ?_
  rintro e w1 ⟨rfl,q1⟩
  have k2:=kept_cell e2 q1
  have k5:=kept_cell e5 q1
  clear HB
  go_wp2_with fail
  go_ret2
  exact ⟨rfl,q1⟩
theorem mapLen (tg:Tags) (o d:Nat) (fs:List M.Fil) (ps:List Nat) (w:World) (h:MapAt w tg o d (namesOf fs) ps) :
  Calls Tryz.prog 68 #[.pointer (some ⟨d,1,none⟩)] w fun e w'=>e=.returned (.int .i64 (fs.length:Nat))∧w'=w:=by
 obtain ⟨a1,k1,r1,_,_⟩:=h.keys
 rw [namesOf_length] at r1
 clear h
 go_enter Tryz.func68,Tryz.ntmps68
 go_wp2_with fail
 go_ret
 exact ⟨rfl,rfl⟩
end Go.Proofs.YtekdenkllipehabGreatDoor
