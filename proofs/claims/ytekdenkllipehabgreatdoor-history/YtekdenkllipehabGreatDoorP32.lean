import Derived.Test.YtekdenkllipehabGreatDoorP29
import Derived.Test.YtekdenkllipehabGreatDoorP30
import Derived.Test.YtekdenkllipehabGreatDoorP31
set_option maxRecDepth 100000
set_option maxHeartbeats 8000000
namespace Go.Proofs.YtekdenkllipehabGreatDoor
open Go.RowKit
variable {b:List Rec} {bad:Prop} {bl:ByteArray} {bs:List (List Rec)}
namespace S
theorem zOD (ho:b.Pairwise Bef) (hne:b≠[]) {r:Rec} (hr:r∈b):r=zf b∨Bef r (zf b):=by
 have e:b=b.dropLast++[b.getLast hne]:=(List.dropLast_concat_getLast hne).symm;have el:zf b=b.getLast hne:=by
  unfold zf;rw [List.getLast?_eq_some_getLast hne];rfl
 rw [el];rw [e,zR2] at ho;rw [e] at hr;rcases zRY.1 hr with h|h
 ·exact Or.inr (by simpa using ho.2.2 r h _ (List.mem_singleton.2 rfl))
 ·exact Or.inl (by simpa using h)
theorem zNk (ho:b.Pairwise Bef) (hne:b≠[]) {k:ByteArray} {t:Int} (h:zHt (zf b) k t):∀ r∈b,zHt r k t:=fun r hr=>by
 rcases zOD ho hne hr with e|e
 ·rw [e];exact h
 ·exact zHt.zOP e h
theorem zJc {p:Nat} (hb:OkB b) (k:ByteArray) (t:Int):zMY (zEm p b).key (zEm p b).stamp k t<0↔zHt (zf b) k t:=by
 have hf:=hb.fits _ (Zq hb.some_);have h0:0≤(zf b).stamp:=by
  simp [Rec.fits] at hf;omega
 rw [zO5];unfold zHt zEm;simp only;rw [Int.toNat_of_nonneg h0]
theorem place:∀ (bs:List (List Rec)) (at_:Nat) (k:ByteArray) (t:Int),(∀ b∈bs,OkB b)→(bs.flatten).Pairwise Bef →
  ∃ m,zMm (yT at_ bs) k t m∧(m=bs.length→∀ r∈bs.flatten,zHt r k t)∧(∀ b,bs[m]?=some b→(∀ r∈(bs.take m).flatten,zHt r k t)∧∃ r∈b,¬zHt r k t)
 | [],at_,k,t,_,_=>⟨0,⟨zQn _,fun i e h=>absurd h (Nat.not_lt_zero _),fun i e _ h=>by simp [yT] at h⟩,fun _ r hr=>by simp at hr,fun b hb=>by simp at hb⟩
 | b::bs,at_,k,t,hok,ho=>by
  have hb:=hok b (by simp);rw [zRK,zR2] at ho;by_cases h:zHt (zf b) k t
  ·obtain ⟨m,hm,h1,h2⟩:=place bs (at_+(zR b).length) k t (fun x hx=>hok x (by simp [hx])) ho.2.1;have hall:=zNk hb.ord hb.some_ h;refine ⟨m+1,⟨?_,?_,?_⟩,?_,?_⟩
   ·simp only [yT,zQl];have:=hm.le;omega
   ·intro i e hi he
    cases i with
    | zero =>
     simp [yT] at he;subst he;exact (zJc hb k t).2 h
    | succ i =>
     rw [yT,zQu] at he;exact hm.lo i e (by omega) he
   ·intro i e hi he
    cases i with
    | zero=>omega
    | succ i =>
     rw [yT,zQu] at he;exact hm.hi i e (by omega) he
   ·intro e r hr;rw [zRK] at hr;rcases zRY.1 hr with hr|hr
    ·exact hall r hr
    ·exact h1 (by simpa using e) r hr
   ·intro c hc;rw [zQu] at hc;obtain ⟨g1,g2⟩:=h2 c hc;refine ⟨fun r hr=>?_,g2⟩;rw [List.take_succ_cons,zRK] at hr;rcases zRY.1 hr with hr|hr
    ·exact hall r hr
    ·exact g1 r hr
  ·refine ⟨0,⟨zQn _,fun i e h=>absurd h (Nat.not_lt_zero _),?_⟩,fun e=>by simp at e,fun c hc=>?_⟩
   ·intro i e _ he;have hi:i<(b::bs).length:=by
     have:=(zQd.1 he).1
     rwa [ZG] at this
    obtain ⟨c,hc⟩:∃ c,(b::bs)[i]?=some c:=⟨_,zQc hi⟩;obtain ⟨p,hp,_⟩:=zES (at_:=at_) hc;rw [hp] at he;obtain rfl:=Option.some.inj he;have hcm:=zQm hc;rw [zJc (hok c hcm)];intro hf;apply h
    cases i with
    | zero =>
     simp at hc;subst hc;exact hf
    | succ i =>
     rw [zQu] at hc;have hcb:=zQm hc;have hl:=Zq (hok c hcm).some_;exact zHt.zOP (ho.2.2 _ (Zq hb.some_) _ (List.mem_flatten.2 ⟨c,hcb,hl⟩)) hf
   ·simp at hc;subst hc;exact ⟨fun r hr=>by simp at hr,_,Zq hb.some_,h⟩
end S
structure zAu (bad:Prop) (bl:ByteArray) (bs:List (List Rec)):Prop where
 size:bl.size=(S.zm bs).length
 each:∀ (i:Nat) (b:List Rec) (p:Nat),bs[i]?=some b→p=(S.zm (bs.take i)).length→(bl.extract p (p+(S.zR b).length)).data.toList=S.zR b∨(bad∧∀ rs T,rs≠[]→zK rs=some T→y9 T≠bl.extract p (p+(S.zR b).length))
theorem S.zGF (bs:List (List Rec)) {i:Nat} (h:bs[i]?=some b):(S.zm (bs.take i)).length+(S.zR b).length≤(S.zm bs).length:=by
 have hi:i<bs.length:=(zQd.1 h).1;have hb:bs[i]=b:=(zQd.1 h).2;have e:bs=bs.take i++b::bs.drop (i+1):=by rw [←hb,List.getElem_cons_drop,zRB]
 have e2:S.zm bs=S.zm (bs.take i)++(S.zR b++S.zm (bs.drop (i+1))):=by
  have:=congrArg S.zm e;rw [S.zA9] at this;rw [this];simp [S.zm]
 rw [e2];simp
theorem zAu.whole (bad:Prop) (bs:List (List Rec)):zAu bad ⟨(S.zm bs).toArray⟩ bs:=by
 refine ⟨by simp [ByteArray.size],fun i b p hi hp=>Or.inl ?_⟩;have h:=S.zPO hi;rw [ByteArray.data_extract];simp only [List.extract_toArray,List.extract_eq_take_drop,Nat.add_sub_cancel_left];rw [hp];exact h
def zOd (bad:Prop) (b:List Rec) (w:World) (e:Ending) (w':World):Prop:=
 (∃ ao cap base,e=.returned (.tuple #[.slice ao b.length cap,.int .i64 0])∧w.heap.size≤base∧w'.ownsRow base 62 4 (.slice ao b.length cap) b.length (zG b))
 ∨ (bad∧e=.returned (.tuple #[.slice none 0 0,.int .i64 3]))
theorem zBy (hL:zAu bad bl bs) (hb:bl.size≤1048576) (hok:∀ b∈bs,S.OkB b) (wm:Int) (ao:Option Addr) (cap:Nat) (i:Nat) (b:List Rec) (hi:bs[i]?=some b) (hl:bs.length≤1048576) (w:World) (hE:Zl w ao (S.yT 0 bs)) (hT:Tab w) :
  Calls Tryz.prog 63 #[Yh wm bl ao bs.length cap,.int .i64 (i:Int)] w fun e w'=>zOd bad b w e w'∧Q w w':=by
 obtain ⟨p,hp,hpe⟩:=S.zES (at_:=0) hi;rw [zR5] at hpe;have hle:=S.zGF bs hi;have h:=zNb wm bl hb (S.yT 0 bs) ao cap i _ hp (Nat.le_add_right _ _) (by rw [hL.size,hpe];exact hle) (by rw [S.ZG];exact hl) w hE hT;rw [S.ZG] at h;refine h.mono ?_;rintro e w' ⟨hB,q⟩;refine ⟨?_,q⟩;rcases hL.each i b p hi hpe with h|⟨h1,h2⟩
 ·exact Or.inl (zL5 (hok b (zQm hi)) h hB)
 ·rcases hB with ⟨rs,T,ao',cap',base,hne,hp',hs,_⟩|⟨he,_⟩
  ·exact absurd hs (h2 rs T hne hp')
  ·exact Or.inr ⟨h1,he⟩
def zHm:Ending:=.returned (.tuple #[.string ⟨#[]⟩,.bool false,.int .i64 3])
theorem zKX {C:S.Con} (hL:zAu bad bl bs) (hb:bl.size≤1048576) (hF:S.Fil yN bs C) (hl:bs.length≤1048576) (wm:Int) (ao:Option Addr) (cap:Nat) (key:ByteArray) (t:Int) (w:World) (hE:Zl w ao (S.yT 0 bs)) (hT:Tab w) :
  Calls Tryz.prog 75 #[Yh wm bl ao bs.length cap,.string key,.int .i64 t] w fun e w'=>(e=Y3 (S.zW (C key) t)∨(bad∧e=zHm))∧Q w w':=by
 obtain ⟨m,hm,h1,h2⟩:=S.place bs 0 key t hF.ok hF.ord;have hml:m≤bs.length:=by rw [←S.ZG 0 bs];exact hm.le
 have SB:Hid _:=fun (W:World) (q:Q w W)=>zQ5 (S.yT 0 bs) (by rw [S.ZG];exact hl) key t m hm ao cap W (hE.kept q);rw [S.ZG] at SB;by_cases he:m=bs.length
 ·have hnone:Y3 (S.zW (C key) t)=.returned (.tuple #[.string ⟨#[]⟩,.bool false,.int .i64 0]):=by
   rw [S.zKn (hF.holds key) (h1 he)];rfl
  rw [hnone];clear hnone h1 h2 hm hE hF hL hml;subst he;unfold Yh;go_enter Tryz.func75,Tryz.ntmps75;go_wp2_with fail;have hV0:=zI w [.int .i64 wm,.string bl,.slice ao bs.length cap] 124;refine (SB.out _ ((Q.refl w).alloc _ _)).mono ?_;rintro e w1 ⟨⟨bb,rfl⟩,q1⟩;have q1':Q w w1:=((Q.refl w).alloc _ _).trans q1;have m2:=(hV0.kept q1).cell 2 rfl;clear SB q1 hV0;go_wp2_with fail
  go_ret3
  exact ⟨Or.inl rfl,q1'⟩
 ·obtain ⟨b,hbm⟩:∃ b,bs[m]?=some b:=⟨_,zQc (by omega)⟩;obtain ⟨g1,g2⟩:=h2 b hbm;have hbok:=hF.ok b (zQm hbm);have hsplit:bs=bs.take m++b::bs.drop (m+1):=by
   obtain ⟨hi,hbe⟩:=zQd.1 hbm;rw [←hbe,List.getElem_cons_drop,zRB]
  have hord:=hF.ord;have hH:=hF.holds key;rw [hsplit] at hord hH;obtain ⟨U,hU,hUe⟩:=S.zIW hord hH g1 g2;obtain ⟨e0,hrun⟩:=hU ⟨#[]⟩;rw [hUe];have SL:Hid _:=fun (W:World) (q:Q w W)=>zBy hL hb hF.ok wm ao cap m b hbm hl W (hE.kept q) (yE hT q);have SV:Hid _:=fun (ao':Option Addr) (cap':Nat) (W:World) (h:Rcs W ao' b)=>zHx b (zQq hbok.few (by omega)) hbok.fits key t U e0 hrun ao' cap' W h;have hmlI:¬(m:Int)=(bs.length:Int):=by omega
  have hmlb:((m:Int) == (bs.length:Int))=false:=by rw [zRU];exact hmlI
  clear hUe hrun hU hord hH hsplit hbok g1 g2 hbm h1 h2 hm hE hF hL hml;unfold Yh at *;go_enter Tryz.func75,Tryz.ntmps75;go_wp2_with fail;have hV0:=zI w [.int .i64 wm,.string bl,.slice ao bs.length cap] 124;refine (SB.out _ ((Q.refl w).alloc _ _)).mono ?_;rintro e w1 ⟨⟨bb,rfl⟩,q1⟩;have q1':Q w w1:=((Q.refl w).alloc _ _).trans q1;have hV1:=hV0.kept q1;have m0:=hV1.cell 0 rfl;have m1:=hV1.cell 1 rfl;have m2:=hV1.cell 2 rfl;clear SB q1 hV0;go_wp2_with fail;refine (SL.out _ q1').mono ?_;rintro e w2 ⟨hB,q2⟩;have q2':=q1'.trans q2;clear SL q2;rcases hB with ⟨ao',cap',base,rfl,hbase,hown⟩|⟨hbad,rfl⟩
  ·have hR:Rcs w2 ao' b:=YQ hown;clear hown;have SV2:Hid _:=fun (W:World) (q:Q w2 W)=>SV.out ao' cap' W (hR.kept q);clear SV hR;go_wp2_with fail;refine (SV2.out _ (Q.refl w2)).mono ?_;rintro e w3 ⟨rfl,q3⟩;unfold Y3;go_wp2_with fail
   go_ret3
   exact ⟨Or.inl rfl,q2'.trans q3⟩
  ·clear SV;go_wp2_with fail
   go_ret3
   exact ⟨Or.inr ⟨hbad,rfl⟩,q2'⟩
end Go.Proofs.YtekdenkllipehabGreatDoor
