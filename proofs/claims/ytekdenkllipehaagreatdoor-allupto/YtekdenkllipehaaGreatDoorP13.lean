import Derived.Test.YtekdenkllipehaaGreatDoorP10
import Derived.Test.YtekdenkllipehaaGreatDoorP11
import Derived.Shelf.Spec.SearchS
set_option maxRecDepth 99999
set_option maxHeartbeats 0
namespace Go.Proofs.YtekdenkllipehaaGreatDoor
section
open Go.RowKit
def KU:Option (List UInt8×List UInt8)->Ending
 |none=>.returned (.tuple #[eS,eS,iT 3])
 |some (a,b)=>.returned (.tuple #[sT ⟨a.toArray⟩,sT ⟨b.toArray⟩,iT 0])
theorem yK(s:BA)(_hs:s.size<=1048576)(n:Int)(h:n<0\/(s.size:Int)<n)(w:World):
  Calls Tryz.prog 86 #[sT s,iT n] w fun e w'=>e=KU none/\Q w w':=by
 unfold KU;by_cases h0:n<0
 .go_in;go_wp2_with fail;refine bodyPost_ret (v:=.tuple #[eS,eS,iT 3]) (by simp[results,Tryz.results86,go_sem]) rfl ?_;exact⟨rfl,Q.refl w⟩
 .have h1:(s.size:Int)<n:=by omega
  go_in;go_wp2_with fail;refine bodyPost_ret (v:=.tuple #[eS,eS,iT 3]) (by simp[results,Tryz.results86,go_sem]) rfl ?_;exact⟨rfl,Q.refl w⟩
theorem uq(s:BA)(hs:s.size<=1048576)(n:Nat)(h:n<=s.size)(u:BA)(x:Int)(hx:x≠0)(w:World)(hU:Calls Tryz.prog 110 #[sT (s.extract (s.size-n) s.size)] w fun e w'=>e=.returned (.tuple #[sT u,iT x])/\Q w w'):
  Calls Tryz.prog 86 #[sT s,iT (n:Int)] w fun e w'=>e=KU none/\Q w w':=by
 unfold KU;obtain⟨a,ha⟩:=xe (s.size-n);rw[ha]at hU;have HU:Hid _:=fun(_:Unit)=>hU;have h1:¬(s.size:Int)<(n:Int):=by omega
 have h2:(s.size:Int)-(n:Int)=(a:Int):=by omega
 have h3:(a:Int)<=(s.size:Int):=by omega
 have h4:(n:Int)<=(s.size:Int):=by omega
 clear hU ha;go_in;go_wp2_with fail;apply(HU.out ()).mono;rintro e w1⟨rfl,q1⟩;go_wp2_with fail;refine bodyPost_ret (v:=.tuple #[eS,eS,iT 3]) (by simp[results,Tryz.results86,go_sem]) rfl ?_;exact⟨rfl,q1⟩
theorem yJ(s:BA)(hs:s.size<=1048576)(n:Nat)(h:n<=s.size)(u:BA)(w:World)(hU:Calls Tryz.prog 110 #[sT (s.extract (s.size-n) s.size)] w fun e w'=>e=.returned (.tuple #[sT u,iT 0])/\Q w w'):
  Calls Tryz.prog 86 #[sT s,iT (n:Int)] w fun e w'=>e=.returned (.tuple #[sT (s.extract 0 (s.size-n)),sT u,iT 0])/\Q w w':=by
 obtain⟨a,ha⟩:=xe (s.size-n);rw[ha]at hU⊢;have HU:Hid _:=fun(_:Unit)=>hU;have h1:¬(s.size:Int)<(n:Int):=by omega
 have h2:(s.size:Int)-(n:Int)=(a:Int):=by omega
 have h3:(a:Int)<=(s.size:Int):=by omega
 have h4:(n:Int)<=(s.size:Int):=by omega
 clear hU ha;go_in;go_wp2_with fail;apply(HU.out ()).mono;rintro e w1⟨rfl,q1⟩;go_wp2_with fail;refine bodyPost_ret (v:=.tuple #[sT (s.extract 0 a),sT u,iT 0]) (by simp[results,Tryz.results86,go_sem]) rfl ?_;exact⟨rfl,q1⟩
theorem Zr(a:BA)(l:List UInt8)(h:a.data.toList=l):a=⟨l.toArray⟩:=by
 apply ByteArray.ext;apply Array.toList_inj.1;simpa using h
theorem lX(s:BA)(hs:s.size<=1048576)(n:Int)(w:World)(hT:Tab w):
  Calls Tryz.prog 86 #[sT s,iT n] w fun e w'=>e=KU (S.Gp s.data.toList n)/\Q w w':=by
 have hl:s.data.toList.length=s.size:=by simp
 unfold S.Gp;by_cases h:n<0\/(s.size:Int)<n
 .rw[if_pos (by rcases h with h|h;exact Or.inl (by omega);exact Or.inr (by omega))];exact yK s hs n h w
 .obtain⟨m,rfl⟩:=Int.eq_ofNat_of_zero_le (show 0<=n by omega);have hm:m<=s.size:=by omega
  have zb:(s.extract (s.size-m) s.size).size=m:=by simp;omega
  by_cases h4:m<4
  .rw[if_pos (Or.inl (by omega))];refine uq s hs m hm ⟨#[]⟩ 2 (by decide) w ((NT _ (by omega) w).mono ?_);rintro e w'⟨rfl,rfl⟩;exact⟨rfl,Q.refl _⟩
  .rw[if_neg (by omega),zLp,hl];obtain⟨k,rfl⟩:∃k,m=k+4:=⟨m-4,by omega⟩;have hU:=Ol (s.extract (s.size-(k+4)) s.size) _ _ k (by omega) zb rfl rfl w hT;have eT:((s.extract (s.size-(k+4)) s.size).extract 0 k).data.toList=(s.data.toList.drop (s.size-(k+4))).take (k+4-4):=by
    simp only[ByteArray.data_extract,Array.toList_extract,List.extract_eq_take_drop,Nat.sub_zero,List.drop_zero];rw[List.take_take,zM7];congr 1;omega
   have eR:((s.extract (s.size-(k+4)) s.size).extract k (k+4)).data.toList=s.data.toList.drop (s.size-4):=by
    simp only[ByteArray.data_extract,Array.toList_extract,List.extract_eq_take_drop];rw[List.drop_take,List.drop_drop,List.take_take,zLP (by rw[List.length_drop,hl];omega)];congr 1;omega
   unfold opened at hU;rw[eR,eT]at hU;by_cases hc:s.data.toList.drop (s.size-4)=M.le4 (M.sum ((s.data.toList.drop (s.size-(k+4))).take (k+4-4)))
   .rw[if_pos hc]at hU⊢;refine(yJ s hs (k+4) hm ((s.extract (s.size-(k+4)) s.size).extract 0 k) w (hU.mono ?_)).mono ?_
    .rintro e w'⟨rfl,b⟩;exact⟨rfl,⟨b⟩⟩
    .rintro e w'⟨rfl,q⟩;refine⟨?_,q⟩;unfold KU;simp only;rw[Zr _ _ eT,Zr (s.extract 0 (s.size-(k+4))) (s.data.toList.take (s.size-(k+4))) (by simp)]
   .rw[if_neg hc]at hU⊢;refine uq s hs (k+4) hm ⟨#[]⟩ 3 (by decide) w (hU.mono ?_);rintro e w'⟨rfl,b⟩;exact⟨rfl,⟨b⟩⟩
end
section
open Go.Shelf
def bZ:Go.Shelf.Ren:=⟨fun|26=>68|33=>93|34=>94|38=>122|n=>n,fun|0=>0|3=>3|4=>4|9=>9|24=>53|40=>149|n=>n,fun n=>n⟩
theorem uF:Lays2.n26 Tryz.prog bZ:={
 mixed:=by kernel_rfl
 f26:=Tryz.func68.trans (congrArg some (by kernel_rfl))
 f33:=Tryz.func93.trans (congrArg some (by kernel_rfl))
 f34:=Tryz.func94.trans (congrArg some (by kernel_rfl))
 f38:=Tryz.func122.trans (congrArg some (by kernel_rfl))
 t0:=Tryz.underlying0
 a0:=Tryz.isAgg0
 z0:=Tryz.sizeOf0
 v0:=Tryz.zeroValue0
 t3:=Tryz.underlying3
 a3:=Tryz.isAgg3
 z3:=Tryz.sizeOf3
 v3:=Tryz.zeroValue3
 t4:=Tryz.underlying4
 a4:=Tryz.isAgg4
 z4:=Tryz.sizeOf4
 v4:=Tryz.zeroValue4
 t9:=Tryz.underlying9
 a9:=Tryz.isAgg9
 z9:=Tryz.sizeOf9
 v9:=Tryz.zeroValue9
 t24:=Tryz.underlying53
 a24:=Tryz.isAgg53
 z24:=Tryz.sizeOf53
 v24:=Tryz.zeroValue53
 t40:=Tryz.underlying149
 a40:=Tryz.isAgg149
 z40:=Tryz.sizeOf149
 v40:=Tryz.zeroValue149 }
end
end Go.Proofs.YtekdenkllipehaaGreatDoor
