import Derived.Test.YtekdenkllipehabGreatDoorK29
import Derived.Test.YtekdenkllipehabGreatDoorK36
set_option maxRecDepth 100000
set_option maxHeartbeats 8000000
namespace Go.Proofs.YtekdenkllipehabGreatDoor
open Go.RowKit
theorem compactKeep {w:World} {tg:Tags} {o s d Bs:Nat} {X:S.Sto} {ids ps:List Nat} (h:StoAt w tg o s d X ids ps) (hB:w.cell? ⟨Bs,0,none⟩=some (.pointer (some ⟨s,0,none⟩))) (rs:List Rec) (hl:rs.length≤140737488351232) (ao:Option Addr) (cap:Nat) (hr:Rcs w ao rs) (hc:rs.length≤cap) :
  Calls Tryz.prog 33 #[.slice ao rs.length cap,.pointer (some ⟨Bs,0,none⟩)] w fun e w'=>e=.returned (.slice ao (needR X.wm rs) cap)∧Q w w':=by
 have c2:=h.c2
 have ND:Hid _:=fun (_:Unit)=>needed_any rs hl X.wm ao cap w hr hc
 clear h
 go_enter Tryz.func33,Tryz.ntmps33
 go_wp2_with fail
 refine (ND.out ()).mono ?_
 rintro e w1 ⟨rfl,q1⟩
 go_wp2_with fail
 go_ret
 exact ⟨rfl,q1⟩
end Go.Proofs.YtekdenkllipehabGreatDoor
