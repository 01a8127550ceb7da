import Derived.Test.YtekdenkllipehabGreatDoorK09
import Derived.Test.YtekdenkllipehabGreatDoorK10
import Derived.Lib.Hide
set_option maxRecDepth 100000
set_option maxHeartbeats 8000000
namespace Go.Proofs.YtekdenkllipehabGreatDoor
open Go.RowKit
theorem cut_str (s:ByteArray) (p n:Nat) (h:p+n≤s.size) (W:World) :
  (Instr.slice 9 (.string s) (some (.int .i64 (p:Int))) (some (.int .i64 ((p:Int)+(n:Int)))) none).run Tryz.prog W=.ok (.string (s.extract p (p+n))) W:=by
 rw [run_slice_string W 9 s .i64 .i64 _ _ Tryz.underlying9 (by omega) (by omega) (by omega)]
 rw [show ((p:Int)+(n:Int)).toNat=p+n by omega,Int.toNat_natCast]
theorem number_any (n:Nat) (hn:n<72057594037927936) (w:World) :
  Calls Tryz.prog 125 #[.int .i64 n] w fun e w'=>e=.returned (.string ⟨(M.enc 7 n).toArray⟩)∧Q w w':=by
 have p:=put_yes n hn
 generalize M.enc 7 n=l at *
 have P:Hid _:=p
 clear p
 go_enter Tryz.func125,Tryz.ntmps125
 go_wp2_with fail
 refine (P.out _).mono ?_
 rintro e w1 ⟨rfl,q1⟩
 go_wp2_with fail
 go_ret
 exact ⟨rfl,q1⟩
theorem number_int (n:Int) (hn:0≤n∧n<72057594037927936) (w:World) :
  Calls Tryz.prog 125 #[.int .i64 n] w fun e w'=>e=.returned (.string ⟨(M.enc 7 n.toNat).toArray⟩)∧Q w w':=by
 have:=number_any n.toNat (by omega) w
 rw [Int.toNat_of_nonneg hn.1] at this
 exact this
theorem index_str (s:ByteArray) (i:Nat) (h:i<s.size) (W:World) :
  (Instr.index 9 (.string s) (.int .i64 (i:Int))).run Tryz.prog W=.ok (.int .u8 ((s[i]).toNat:Int)) W:=by
 rw [run_index_string W 9 s .i64 (i:Int) Tryz.underlying9]
 simp [h]
end Go.Proofs.YtekdenkllipehabGreatDoor
namespace Go.Proofs.YtekdenkllipehabGreatDoor
open Go.RowKit
theorem get_none (s:ByteArray) (a:Nat) (hs:s.size≤140737488351232) (h:M.getAt s.data.toList a=none) (w:World) :
  Calls Tryz.prog 132 #[.string s,.int .i64 a] w fun e w'=>e=.returned (.tuple #[.int .i64 0,.int .i64 0,.int .i64 2])∧w'=w:=by
 by_cases ha:a<s.size
 ·unfold M.getAt at h
  rw [if_pos (by simpa using ha)] at h
  have h1:=get_in s a (by unfold maxLen;omega) ha w
  cases hr:M.rd 8 [] (s.data.toList.drop a) with
  | none=>rw [hr] at h1;exact h1
  | some p=>rw [hr] at h;simp at h
 ·exact get_out s a (by unfold maxLen;omega) (Or.inr (by omega)) w
theorem get_some (s:ByteArray) (a v nx:Nat) (hs:s.size≤140737488351232) (h:M.getAt s.data.toList a=some (v,nx)) (w:World) :
  Calls Tryz.prog 132 #[.string s,.int .i64 a] w fun e w'=>e=.returned (.tuple #[.int .i64 v,.int .i64 nx,.int .i64 0])∧w'=w:=by
 have ha:a<s.size:=by simpa using (M.getAt_bound h).2.2.2
 unfold M.getAt at h
 rw [if_pos (by simpa using ha)] at h
 have h1:=get_in s a (by unfold maxLen;omega) ha w
 cases hr:M.rd 8 [] (s.data.toList.drop a) with
 | none=>rw [hr] at h;simp at h
 | some p =>
  obtain ⟨v',k⟩:=p
  rw [hr] at h h1
  simp only [Option.some.injEq,Prod.mk.injEq] at h
  obtain ⟨rfl,rfl⟩:=h
  exact h1
end Go.Proofs.YtekdenkllipehabGreatDoor
namespace Go.Proofs.YtekdenkllipehabGreatDoor
open Go.RowKit
theorem puts_yes (s:M.St) (h:s.put.size≠0) (w:World) :
  Calls Tryz.prog 181 #[s.val] w fun e w'=>e=.returned (.bool true)∧Q w w':=by
 obtain ⟨put,place,size⟩:=s
 simp only [M.St.val]
 have hne:(put.toList == [])=false:=by
  rw [ByteArray.toList_eq,beq_eq_false_iff_ne]
  intro e
  exact h (by simpa using congrArg List.length e)
 go_enter Tryz.func181,Tryz.ntmps181
 go_wp2_with fail
 go_ret
 exact ⟨by simp_all,(Q.refl w).alloc _ _⟩
theorem puts_no (s:M.St) (h:s.put.size=0) (w:World) :
  Calls Tryz.prog 181 #[s.val] w fun e w'=>e=.returned (.bool false)∧Q w w':=by
 obtain ⟨put,place,size⟩:=s
 simp only [M.St.val]
 have hne:(put.toList == [])=true:=by
  rw [ByteArray.toList_eq,beq_iff_eq]
  exact List.eq_nil_of_length_eq_zero (by simpa using h)
 go_enter Tryz.func181,Tryz.ntmps181
 go_wp2_with fail
 go_ret
 exact ⟨by simp_all,(Q.refl w).alloc _ _⟩
def isPut (b:ByteArray):Bool:=decide (b.size≠0)
theorem isPut_no {b:ByteArray}:isPut b=false↔b.size=0:=by simp [isPut]
theorem isPut_yes {b:ByteArray}:isPut b=true↔b.size≠0:=by simp [isPut]
theorem puts_gen (put:ByteArray) (p n:Nat) (w:World) :
  Calls Tryz.prog 181 #[.agg #[.string put,.int .i64 (p:Int),.int .i64 (n:Int)]] w fun e w'=>e=.returned (.bool (isPut put))∧Q w w':=by
 by_cases h:put.size=0
 ·have:=puts_no ⟨put,p,n⟩ h w
  rw [isPut_no.2 h];exact this
 ·have:=puts_yes ⟨put,p,n⟩ h w
  rw [isPut_yes.2 h];exact this
theorem takeStep_any (p n:Int) (w:World) :
  Calls Tryz.prog 196 #[.int .i64 p,.int .i64 n] w fun e w'=>e=.returned (.agg #[.string ⟨#[]⟩,.int .i64 p,.int .i64 n])∧Q w w':=by
 go_enter Tryz.func196,Tryz.ntmps196
 go_wp2_with fail
 refine bodyPost_ret (v:=.agg #[.string ⟨#[]⟩,.int .i64 p,.int .i64 n]) (by simp [results,Tryz.results196,go_sem]) rfl ?_
 exact ⟨rfl,(Q.refl w).alloc _ _⟩
theorem putStep_any (s:ByteArray) (w:World) :
  Calls Tryz.prog 195 #[.string s] w fun e w'=>e=.returned (.agg #[.string s,.int .i64 0,.int .i64 s.size])∧Q w w':=by
 go_enter Tryz.func195,Tryz.ntmps195
 go_wp2_with fail
 refine bodyPost_ret (v:=.agg #[.string s,.int .i64 0,.int .i64 s.size]) (by simp [results,Tryz.results195,go_sem]) rfl ?_
 exact ⟨rfl,(Q.refl w).alloc _ _⟩
end Go.Proofs.YtekdenkllipehabGreatDoor
