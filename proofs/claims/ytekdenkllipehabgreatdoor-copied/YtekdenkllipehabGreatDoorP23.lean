import Derived.Test.YtekdenkllipehabGreatDoorP16
import Derived.Test.YtekdenkllipehabGreatDoorP17
set_option maxRecDepth 100000
set_option maxHeartbeats 8000000
namespace Go.Proofs.YtekdenkllipehabGreatDoor
open Go.RowKit
theorem zIt (nm:ByteArray) (w:World) :
  Calls Tryz.prog 78 #[.slice none 0 0,.string nm] w fun e w'=>e=.returned (.tuple #[.int .i64 0,.bool false])∧Q w w':=by
 go_enter Tryz.func78,Tryz.ntmps78;go_wp2_with fail
 go_loopw [7,8] (fun a b wr=>a=.int .i64 0∧b=.int .i64 0∧wr=w) (fun _ _ _=>0)
 case atStart=>exact ⟨rfl,rfl,rfl⟩
 case round =>
  obtain ⟨rfl,rfl,rfl⟩:=hrel;go_wp2_with fail
  go_ret2
  exact ⟨rfl,Q.refl _⟩
theorem bsearch (fs:List M.Fil) (hs:M.Sorted fs) (hl:fs.length≤64) (nm:ByteArray) (ao:Option Addr) (cap:Nat) (w:World) (hr:w.ownsRow 0 9 1 (.slice ao fs.length cap) fs.length (zH (zP fs))) :
  Calls Tryz.prog 78 #[.slice ao fs.length cap,.string nm] w fun e w'=>e=.returned (.tuple #[.int .i64 (M.yK fs nm:Nat),.bool (M.place fs nm).isSome])∧Q w w':=by
 rcases hr.2 with ⟨hv,h0⟩|⟨g,c,cur,hv,_,hh,_⟩
 ·have hf:fs=[]:=zQi h0;subst hf;injection hv with e1 e2 e3;subst e1 e3;exact zIt nm w
 ·injection hv with e1 e2 e3;subst e1 e3;obtain ⟨Sx,hSx⟩:∃ Sx:Nat→ByteArray,Sx=fun t=>((fs[t]?).map fun f=>f.name).getD nm:=⟨_,rfl⟩;have hc:∀ j,j<fs.length→w.cell? ⟨g,0+j,none⟩=some (.string (Sx j)):=fun j hj=>by
   rw [zR5,hr.cellAt j (by omega),hSx];simp [zH,zP,List.getElem?_eq_getElem hj]
  have hb:Lib.bsGo (fun t=>Op.bytesLess (Sx t).toList nm.toList) fs.length 0 fs.length=M.yK fs nm:=by
   refine Lib.bsGo_spec _ (M.yK fs nm) (fun t ht=>?_) (fun t ht=>?_) _ _ _ (by omega) (zQn _) (M.zBP fs nm)
   ·have hlt:t<fs.length:=zQe ht (M.zBP fs nm);have:=M.zB5 (zQc hlt) ht;rw [hSx];simpa [List.getElem?_eq_getElem hlt,M.ahead] using this
   ·rw [hSx];by_cases hlt:t<fs.length
    ·have:=M.zD7 hs (zQc hlt) ht;simpa [List.getElem?_eq_getElem hlt,M.ahead] using this
    ·simp [List.getElem?_eq_none (Nat.le_of_not_lt hlt),M.yu]
  have hC:=Any2.slices_BinarySearch_string zOS g 0 fs.length cap Sx nm w (by omega) hc;rw [hb] at hC;refine Calls.mono hC ?_;rintro e w' ⟨rfl,q,rfl⟩;refine ⟨?_,Q.drewN (Q.refl w) q⟩;have hd:decide (M.yK fs nm<fs.length∧Sx (M.yK fs nm)=nm)=(M.place fs nm).isSome:=by
   rw [M.zIB hs nm,hSx];by_cases hlt:M.yK fs nm<fs.length
   ·simp only [zQc hlt,zRM,zQo,hlt,true_and];by_cases hn:fs[M.yK fs nm].name=nm
    ·simp [hn]
    ·simp [hn]
   ·simp [hlt]
  rw [hd]
def zDu (ps:List Nat):Option Nat→Value
 | some i=>.pointer ((ps[i]?).map fun p=>⟨p,0,none⟩)
 | none=>.pointer none
theorem zD6 (tg:Tags) (o d:Nat) (fs:List M.Fil) (ps:List Nat) (hs:M.Sorted fs) (hl:fs.length≤64) (nm:ByteArray) (w:World) (h:MapAt w tg o d (zP fs) ps) :
  Calls Tryz.prog 69 #[.pointer (some ⟨d,1,none⟩),.string nm] w fun e w'=>e=.returned (.tuple #[zDu ps (M.place fs nm),.bool (M.place fs nm).isSome])∧Q w w':=by
 have HM:Hid (MapAt w tg o d (zP fs) ps):=h;obtain ⟨a1,k1,r1,r2,r3⟩:=h.keys;rw [zQ] at r1 r2;have HB:Hid _:=fun (_:Unit)=>bsearch fs hs hl nm a1 k1 w r2
 cases hp:M.place fs nm with
 | none =>
  rw [hp] at HB;clear h r2 r3;go_enter Tryz.func69,Tryz.ntmps69;go_wp2_with fail;refine (HB.out ()).mono ?_;rintro e w1 ⟨rfl,q1⟩;go_wp2_with fail
  go_ret2
  exact ⟨rfl,q1⟩
 | some i =>
  rw [hp] at HB;have hlow:=M.zCE hs hp;obtain ⟨f,hf,_,_⟩:=M.yo hp;have hi:i<fs.length:=(zQd.1 hf).1;obtain ⟨g,cap,gv,capv,p,e1,e2,_,_,_,_,e3,_,e4⟩:=HM.out.at (i:=i) (by simpa using hi);rw [zQ] at e2;have e5:=e4 i p e3;have hpt:zDu ps (some i)=.pointer (some ⟨p,0,none⟩):=by simp [zDu,e3]
  rw [hlow] at HB;rw [hpt];clear h r2 r3 e1 e4 hp hlow hf;go_enter Tryz.func69,Tryz.ntmps69;go_wp2_with fail;refine (HB.out ()).mono ?_;rintro e w1 ⟨rfl,q1⟩;have k2:=zA e2 q1;have k5:=zA e5 q1;clear HB;go_wp2_with fail
  go_ret2
  exact ⟨rfl,q1⟩
theorem zOR (tg:Tags) (o d:Nat) (fs:List M.Fil) (ps:List Nat) (w:World) (h:MapAt w tg o d (zP fs) ps) :
  Calls Tryz.prog 68 #[.pointer (some ⟨d,1,none⟩)] w fun e w'=>e=.returned (.int .i64 (fs.length:Nat))∧w'=w:=by
 obtain ⟨a1,k1,r1,_,_⟩:=h.keys;rw [zQ] at r1;clear h;go_enter Tryz.func68,Tryz.ntmps68;go_wp2_with fail;go_ret;exact ⟨rfl,rfl⟩
end Go.Proofs.YtekdenkllipehabGreatDoor
