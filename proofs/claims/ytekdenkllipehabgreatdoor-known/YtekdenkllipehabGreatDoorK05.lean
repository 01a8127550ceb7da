import Derived.Test.YtekdenkllipehabGreatDoorK03
import Derived.Test.YtekdenkllipehabGreatDoorRows
import Derived.Laws.BytesArg
set_option maxRecDepth 100000
set_option maxHeartbeats 8000000
namespace Go.Proofs.YtekdenkllipehabGreatDoor
open Go.RowKit
def Tab (w:World):Prop:=∀ i,i<16→w.cell? ⟨1,i,none⟩=some (.int .u32 (M.half i))
theorem round_facts (s:ByteArray) (k:Nat) (h:k<s.size) (w:World) (hT:Tab w) :
  ∃ x1 y1 x2 y2 x3:Nat,
   bits .xor .u32 (M.run (s.data.toList.take k):Int) (s[k].toNat:Int)=(x1:Int) ∧
   bits .and .u32 (x1:Int) 15=(x1:Int) % 16 ∧
   w.cell? ⟨1,x1 % 16,none⟩=some (.int .u32 (y1:Int)) ∧
   bits .xor .u32 ((x1:Int) / 16) (y1:Int)=(x2:Int) ∧
   bits .and .u32 (x2:Int) 15=(x2:Int) % 16 ∧
   w.cell? ⟨1,x2 % 16,none⟩=some (.int .u32 (y2:Int)) ∧
   bits .xor .u32 ((x2:Int) / 16) (y2:Int)=(x3:Int) ∧
   x1<4294967296∧x2<4294967296∧Hid (x3=M.run (s.data.toList.take (k+1))):=by
 have hr:=M.run_lt (s.data.toList.take k)
 have hb:=s[k].toNat_lt
 have l1:M.run (s.data.toList.take k) ^^^ s[k].toNat<4294967296:=M.xor_byte_lt hr _
 have hst:=M.step_halves (M.run (s.data.toList.take k)) s[k]
 rw [←M.run_snoc,←take_snoc s k h] at hst
 have e1:=u32_xor (M.run (s.data.toList.take k)) s[k].toNat hr (by omega)
 generalize M.run (s.data.toList.take k) ^^^ s[k].toNat=x1 at *
 have g1:=M.half_lt (x1 % 16)
 have l2:x1 / 16 ^^^ M.half (x1 % 16)<4294967296:=Nat.xor_lt_two_pow (n:=32) (by omega) g1
 have e2:=u32_xor (x1 / 16) (M.half (x1 % 16)) (by omega) g1
 have c1:=hT (x1 % 16) (by omega)
 generalize M.half (x1 % 16)=y1 at *
 generalize x1 / 16 ^^^ y1=x2 at *
 have g2:=M.half_lt (x2 % 16)
 have e3:=u32_xor (x2 / 16) (M.half (x2 % 16)) (by omega) g2
 have c2:=hT (x2 % 16) (by omega)
 refine ⟨x1,y1,x2,_,_,e1,u32_and15 _ (by omega) (by omega),c1,?_,u32_and15 _ (by omega) (by omega),c2,?_,l1,l2,hst.symm⟩
 ·rw [←e2];rfl
 ·rw [←e3];rfl
theorem sum_any (s:ByteArray) (hs:s.size≤281474976710656) (w:World) (hT:Tab w) :
  Calls Tryz.prog 189 #[.string s] w fun e w'=>e=.returned (.int .i64 (M.sum s.data.toList))∧w'=w:=by
 go_enter Tryz.func189,Tryz.ntmps189
 go_wp2
 go_loop [3,7] (fun c i=>∃ k:Nat,k≤s.size∧i=.int .i64 k∧c=.int .u32 (M.run (s.data.toList.take k))) (fun _ i=>s.size-(intOf i).toNat)
 case atStart=>exact ⟨0,Nat.zero_le _,rfl,rfl⟩
 case round =>
  obtain ⟨k,hk,rfl,rfl⟩:=hrel
  have hr:=M.run_lt (s.data.toList.take k)
  by_cases hlt:k<s.size
  ·have hbb:(s[k].toNat:Int)<256:=by have:=s[k].toNat_lt;omega
   obtain ⟨x1,y1,x2,y2,x3,hx1,ha1,hc1,hx2,ha2,hc2,hx3,l1,l2,HR⟩:=round_facts s k hlt w hT
   go_wp2
   go_round
   case rel=>exact ⟨k+1,by omega,by go_num,by rw [HR.out]⟩
   case measure=>simp [intOf];omega
  ·have E:Ending.returned (.int .i64 (wrap64 (bits .xor .u32 IntKind.u32.max (M.run (s.data.toList.take k):Int))))=.returned (.int .i64 (M.sum s.data.toList)):=by
    rw [turned _ hr,List.take_of_length_le (by simp;omega)];rfl
   go_wp2
   go_ret
   exact ⟨E,rfl⟩
theorem conv4 (W:World) (a b c d:Int):(convert 88 9 (.slice (some ⟨W.heap.size,0,none⟩) 4 4)).run Tryz.prog (W.alloc (.cells #[.int .u8 a,.int .u8 b,.int .u8 c,.int .u8 d] 5)) =
  .ok (.string ⟨#[UInt8.ofNat a.toNat,UInt8.ofNat b.toNat,UInt8.ofNat c.toNat,UInt8.ofNat d.toNat]⟩) (W.alloc (.cells #[.int .u8 a,.int .u8 b,.int .u8 c,.int .u8 d] 5)):=
 run_convert_bytes_arg (P:=Tryz.prog) (W.alloc (.cells #[.int .u8 a,.int .u8 b,.int .u8 c,.int .u8 d] 5)) 88 5 Tryz.underlying88 Tryz.underlying5 W.heap.size 0 4 4 [a,b,c,d] rfl (fun i hi=>by
  match i,hi with
  | 0,_=>simp
  | 1,_=>simp
  | 2,_=>simp
  | 3,_=>simp
  | i+4,hi=>omega) 9 Tryz.underlying9
end Go.Proofs.YtekdenkllipehabGreatDoor
