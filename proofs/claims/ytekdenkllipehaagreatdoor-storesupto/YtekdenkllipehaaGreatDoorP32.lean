import Derived.Test.YtekdenkllipehaaGreatDoorP21
import Derived.Test.YtekdenkllipehaaGreatDoorP23
import Derived.Test.YtekdenkllipehaaGreatDoorP28
set_option maxRecDepth 99999
set_option maxHeartbeats 0
namespace Go.Proofs.YtekdenkllipehaaGreatDoor
open Go.RowKit
variable{U ks l r:List BA}{ao:Option Addr}{g i n:Nat}{k:BA}{w:World}
theorem ZY(x:BA)(w:World):Calls Tryz.prog 122 #[sT x] w fun e w'=>e=.returned (.bool false)/\w'=w:=by
 go_in;go_wp2;go_ret;exact⟨by simp,rfl⟩
theorem wO(a b:BA)(w:World):Calls Tryz.prog 93 #[sT a,sT b] w fun e w'=>e=.returned (.bool (decide (S.Bc a b)))/\w'=w:=by
 have HN:Hid _:=ZY;have hd:decide (S.Bc a b)=Op.bytesLess a.toList b.toList:=by
  by_cases h:Op.bytesLess a.toList b.toList=true
  .exact(decide_eq_true h).trans h.symm
  .exact(decide_eq_false h).trans (Bool.eq_false_iff.2 h).symm
 rw[hd];go_in;go_wp2_with(go_at_call 122;apply(HN.out _ _).mono;rintro e w'⟨rfl,rfl⟩);go_ret;exact⟨rfl,rfl⟩
theorem zBp(a b:BA)(w:World):Calls Tryz.prog 186 #[sT a,sT b] w fun e w'=>e=.returned (iT (if S.Bc a b then -1 else if a=b then 0 else 1))/\w'=w:=by
 have HN:Hid _:=ZY;by_cases hk:S.Bc a b
 .rw[if_pos hk];have h1:Op.bytesLess a.toList b.toList=true:=hk;go_in;go_wp2_with(go_at_call 122;apply(HN.out _ _).mono;rintro e w'⟨rfl,rfl⟩);go_ret;exact⟨rfl,rfl⟩
 .rw[if_neg hk];have h1:Op.bytesLess a.toList b.toList=false:=by
   cases h:Op.bytesLess a.toList b.toList with
   |true=>exact absurd h hk
   |false=>rfl
  by_cases hab:a=b
  .subst hab;rw[if_pos rfl];go_in;go_wp2_with(go_at_call 122;apply(HN.out _ _).mono;rintro e w'⟨rfl,rfl⟩);go_ret;exact⟨rfl,rfl⟩
  .rw[if_neg hab];have h2:Op.bytesLess b.toList a.toList=true:=by
    rcases S.Gl a b with h|h|h
    .exact absurd h hk
    .exact absurd h hab
    .exact h
   ((have h3:(a.toList==b.toList)=false:=by rw[zM9];exact fun e=>hab (M.EY e));have h4:(!a.toList==b.toList)=true:=by rw[h3];rfl);go_in;go_wp2_with(go_at_call 122;apply(HN.out _ _).mono;rintro e w'⟨rfl,rfl⟩);go_ret;exact⟨rfl,rfl⟩
def Df(w:World)(g:Nat)(ao:Option Addr)(ks:List BA):Prop:=ks=[]\/∃off,ao=some (aD g off)/\∀i k,ks[i]?=some k->w.cell? (aD g (off+i))=some (sT k)
theorem Df.head(h:Df w g ao (k::ks)):∃off,ao=some (aD g off)/\w.cell? (aD g off)=some (sT k):=by
 rcases h with h|⟨off,h1,h2⟩
 .cases h
 .exact⟨off,h1,h2 0 k rfl⟩
theorem Df.tail{off:Nat}(h:Df w g (some (aD g off)) (k::ks)):Df w g (some (aD g (off+1))) ks:=by
 rcases h with h|⟨off',h1,h2⟩
 .cases h
 .injection h1 with h1;injection h1 with _ h1;subst h1;refine Or.inr ⟨off+1,rfl,fun i x hx=>?_⟩;have:=h2 (i+1) x (by simpa using hx);rw[show off+1+i=off+(i+1) by omega];exact this
theorem Df.of_block{w':World}(h:Df w g ao ks)(hb:w'.heap[g]?=w.heap[g]?):Df w' g ao ks:=by
 rcases h with h|⟨off,h1,h2⟩
 .exact Or.inl h
 .exact Or.inr ⟨off,h1,fun i k hk=>(zMI (a:=(aD g (off+i))) hb).trans (h2 i k hk)⟩
theorem wK(a:BA)(n g off lc:Nat)(ra:Option Addr)(rc:Nat)(w:World)(h1:w.cell? (aD g off)=some (sT a)):
  Calls Tryz.prog 167 #[.slice (some (aD g off)) (n+1) lc,.slice ra 0 rc] w fun e w'=>e=.returned (sT a)/\Q w w':=by
 have hl0:(0:Int)<((n+1:Nat):Int):=by omega
 go_in;go_upto_region 1 with fail
 go_quiet (fail);go_wp2;go_ret;exact⟨rfl,(Q.refl w).drewN _⟩
theorem wJ(b:BA)(n g off lc:Nat)(la:Option Addr)(rc:Nat)(w:World)(h1:w.cell? (aD g off)=some (sT b)):
  Calls Tryz.prog 167 #[.slice la 0 lc,.slice (some (aD g off)) (n+1) rc] w fun e w'=>e=.returned (sT b)/\Q w w':=by
 have hl0:(0:Int)<((n+1:Nat):Int):=by omega
 have hne:¬((n+1:Nat):Int)=0:=by omega
 have hneb:(((n+1:Nat):Int)==0)=false:=by rw[zM9];exact hne
 have hne2:¬((n:Int)+1=0):=by omega
 have zB1:((n:Int)+1==0)=false:=by rw[zM9];exact hne2
 go_in;go_upto_region 1 with fail
 go_quiet (fail);go_wp2;go_ret;exact⟨rfl,(Q.refl w).drewN _⟩
theorem wL(a b:BA)(m n g off lc g' bQ:Nat)(rc:Nat)(w:World)(h1:w.cell? (aD g off)=some (sT a))(h2:w.cell? (aD g' bQ)=some (sT b)):
  Calls Tryz.prog 167 #[.slice (some (aD g off)) (m+1) lc,.slice (some (aD g' bQ)) (n+1) rc] w fun e w'=>e=.returned (sT (if S.Bc a b then a else b))/\Q w w':=by
 have HL:Hid _:=fun(W:World)=>wO a b W;have hl0:(0:Int)<((n+1:Nat):Int):=by omega
 have hl1:(0:Int)<((m+1:Nat):Int):=by omega
 have hne:¬((n+1:Nat):Int)=0:=by omega
 have hneb:(((n+1:Nat):Int)==0)=false:=by rw[zM9];exact hne
 have hne2:¬((n:Int)+1=0):=by omega
 have zB1:((n:Int)+1==0)=false:=by rw[zM9];exact hne2
 obtain⟨c,hc⟩:=xe (decide (S.Bc a b));rw[hc]at HL;have hr:(if S.Bc a b then a else b)=if c=true then a else b:=by
  by_cases hk:S.Bc a b
  .rw[if_pos hk,if_pos (by rw[<-hc];exact decide_eq_true hk)]
  .rw[if_neg hk,if_neg (by rw[<-hc];simpa using hk)]
 rw[hr];go_in;go_upto_region 1 with fail
 go_region_held3 (fun w'=>Q w w'/\w'.cell? (aD g off)=some (sT a)/\w'.cell? (aD g' bQ)=some (sT b)) (first|exact⟨Q.refl w,h1,h2⟩|exact⟨(Q.refl w).drew,h1,h2⟩)
  (first|(go_at_call 93;apply(HL.out _).mono;rintro e w4⟨rfl,rfl⟩))
 cases c
 .go_wp2;go_ret;exact⟨rfl,(Q.refl w).drew⟩
 .go_wp2;go_ret;exact⟨rfl,(Q.refl w).drew⟩
theorem pV(l r:List BA)(h:¬(l=[]/\r=[]))(g g':Nat)(la ra:Option Addr)(lc rc:Nat)(w:World)(hl:Df w g la l)(hr:Df w g' ra r):
  Calls Tryz.prog 167 #[.slice la l.length lc,.slice ra r.length rc] w fun e w'=>e=.returned (sT (S.low l r))/\Q w w':=by
 cases r with
 |nil =>
  cases l with
  |nil=>exact absurd ⟨rfl,rfl⟩ h
  |cons a t =>
   obtain⟨off,rfl,h1⟩:=hl.head;exact wK a t.length g off lc ra rc w h1
 |cons b u =>
  obtain⟨bQ,rfl,h2⟩:=hr.head
  cases l with
  |nil=>exact wJ b u.length g' bQ lc la rc w h2
  |cons a t =>
   obtain⟨off,rfl,h1⟩:=hl.head;exact wL a b t.length u.length g off lc g' bQ rc w h1 h2
theorem mI(l:List BA)(k:BA)(g:Nat)(la:Option Addr)(lc:Nat)(w:World)(hl:Df w g la l)(hc:l.length<=lc):
  Calls Tryz.prog 168 #[.slice la l.length lc,sT k] w fun e w'=>(∃ao cap,e=.returned (.slice ao (S.beh l k).length cap)/\Df w g ao (S.beh l k)/\(S.beh l k).length<=cap)/\w'=w:=by
 have HL:Hid _:=zBp
 cases l with
 |nil =>
  have hb:S.beh [] k=[]:=rfl;rw[hb,zLW];go_in;go_wp2;go_ret;exact⟨⟨la,lc,rfl,Or.inl rfl,zLS _⟩,rfl⟩
 |cons a t =>
  obtain⟨off,rfl,h1⟩:=hl.head;have hlen:(a::t).length=t.length+1:=rfl;have hl0:(0:Int)<((t.length+1:Nat):Int):=by omega
  rw[hlen]at hc⊢;by_cases hk:a=k
  .subst hk;rw[S.Fv];have hcmp:(if S.Bc a a then(-1:Int)else if a=a then 0 else 1)=0:=by rw[if_neg (S.CW a),if_pos rfl]
   have HT:=h_ hl.tail;go_in;go_wp2_with(go_at_call 186;apply(HL.out _ _ _).mono;rintro e w'⟨rfl,rfl⟩;rw[hcmp])
   all_goals
    go_ret;exact⟨⟨_,_,rfl,(by first|exact HT.out|exact Or.inl (zLN (by omega))),by omega⟩,rfl⟩
  .rw[S.mK hk];have hcmp:((if S.Bc a k then(-1:Int)else if a=k then 0 else 1)==0)=false:=by
    rw[if_neg hk,zM9];split<;>decide
   (have HK:=h_ hl;obtain⟨c,hc1⟩:∃c,(if S.Bc a k then(-1:Int)else if a=k then 0 else 1)=c:=⟨_,rfl⟩;rw[hc1]at hcmp;have zH1:¬c=0:=by rw[zM9]at hcmp;exact hcmp);go_in;go_wp2_with(go_at_call 186;apply(HL.out _ _ _).mono;rintro e w'⟨rfl,rfl⟩;rw[hc1]);go_ret;exact⟨⟨_,_,rfl,HK.out,hc⟩,rfl⟩
def zHZ(U:List BA)(_:Tags)(i:Nat)(vs:Array Value)(_:World):Prop:=∃k,U[i]?=some k/\vs=#[sT k]
theorem ng(hU:U.drop i=S.uni n l r)(hn:l.length+r.length<=n)(h:¬(l=[]/\r=[])):
  U[i]?=some (S.low l r)/\U.drop (i+1)=S.uni (n-1) (S.beh l (S.low l r)) (S.beh r (S.low l r))/\(S.beh l (S.low l r)).length+(S.beh r (S.low l r)).length<=n-1:=by
 have hb:=S.UZ h
 cases n with
 |zero=>omega
 |succ n =>
  unfold S.uni at hU;rw[if_neg h]at hU;have h0:(U.drop i)[0]?=some (S.low l r):=by rw[hU];rfl
  rw[zLr,Nat.add_zero]at h0;refine⟨h0,?_,by omega⟩;have:(U.drop i).drop 1=U.drop (i+1):=by rw[List.drop_drop]
  rw[<-this,hU];rfl
theorem vL(hU:U.drop i=S.uni n l r)(h:l=[]/\r=[])(hi:i<=U.length):i=U.length:=by
 have:S.uni n l r=[]:=by cases n with
  |zero=>rfl
  |succ n=>unfold S.uni;rw[if_pos h]
 rw[this,List.drop_eq_nil_iff]at hU;omega
theorem jY(he:¬(([]:List BA)=[]/\r=[])):0<r.length:=Nat.pos_of_ne_zero fun e=>he ⟨rfl,zLN e⟩
theorem Df.qE{Bo:Nat->Prop}{tg Ch:Tags}(QE:∀k,k<n->tg k=Ch k)(hg:g<n/\¬Bo (Ch g).1){W:World}(h1:Df W g ao ks){W':World}{AR:Tags}(h2:Kept Bo tg W AR W')(h3:n<=W.heap.size):Df W' g ao ks:=
 h1.of_block (h2.block g (zLJ hg.1 h3) (by rw[QE g hg.1];exact hg.2))
def lenOf:Value->Nat
 |.slice _ n _=>n
 |_=>0
theorem zA6(n:Nat)(hn:1<=n)(l r:List BA)(Ba Bb s g g':Nat)(la ra:Option Addr)(lc rc:Nat)(So Bo Bx:Nat->Prop)(Ch:Tags)(w:World)(b1:w.cell? (aD Ba 0)=some (.pointer (some (aD s 4))))(b2:w.cell? (aD Bb 0)=some (.pointer (some (aD s 6))))(c1:w.cell? (aD s 4)=some (.slice la l.length lc))(c2:w.cell? (aD s 6)=some (.slice ra r.length rc))(hl:Df w g la l)(hr:Df w g' ra r)(hlc:l.length<=lc)(hrc:r.length<=rc)(hg:g<w.heap.size/\¬Bo (Ch g).1)(hg':g'<w.heap.size/\¬Bo (Ch g').1):
  u7 Fence.wide n Tryz.prog 166 #[pT Ba,pT Bb] (S.uni (l.length+r.length) l r).length So Bo Bx (fun _=>True) (zHZ (S.uni (l.length+r.length) l r)) Ch w:=by
 intro lp J Jx hJ hJx hY h0;obtain⟨U,hU⟩:=ex (S.uni (l.length+r.length) l r);rw[<-hU]at hY⊢;have LW:Hid _:=pV;have BH:Hid _:=mI;refine callsIn_of_wp Tryz.func166 rfl trivial ?_ rfl;simp only[Tryz.ntmps166,zLm,zLQ,zLW,Nat.reduceAdd,Nat.reduceSub,zLj,zLi,zLs,zLl,zLb,zLd];have hmx:Tryz.prog.follows .mixedOrders=true:=by kernel_rfl
 gi_wp2
 gi_region_o
 all_goals gi_wp2
 gi_loopw [4,5] (fun lv rv wr=>∃(tg:Tags)(i:Nat)(l' r':List BA)(la' ra':Option Addr)(IC rc' m:Nat),lv=.slice la' l'.length IC/\rv=.slice ra' r'.length rc'/\U.drop i=S.uni m l' r'/\l'.length+r'.length<=m/\i<=U.length/\Df wr g la' l'/\Df wr g' ra' r'/\l'.length<=IC/\r'.length<=rc'/\J tg i wr/\(∀k,k<w.heap.size->tg k=Ch k)/\w.heap.size<=wr.heap.size)
  (fun lv rv _=>lenOf lv+lenOf rv)
 case atStart =>
  exact⟨Ch,0,l,r,la,ra,lc,rc,l.length+r.length,rfl,rfl,by rw[List.drop_zero];exact hU,zLK _,zLS _,hl.of_block rfl,hr.of_block rfl,hlc,hrc,hJ _ _ _ _ _ h0 (Kept.Be ((Q.refl w).drew) (fun _ _=>rfl)),fun _ _=>rfl,zLK _⟩
 case round =>
  obtain⟨tg,i,l',r',la',ra',IC,rc',m,rfl,rfl,hd,hm,hi,hkl,hkr,hc1,hc2,hJi,QE,hsz⟩:=hrel;by_cases he:l'=[]/\r'=[]
  .obtain⟨rfl,rfl⟩:=he;have hie:=vL hd ⟨rfl,rfl⟩ hi;subst hie;simp only[zLW];gi_wp2;go_end0;exact⟨⟨_,rfl⟩,tg,Or.inl hJi⟩
  .obtain⟨hk,hd',hm'⟩:=ng hd hm he;have HB:Hid _:=And.intro hk (And.intro hd' (And.intro hm' (S.UZ he)));have LW2:Hid _:=fun(W:World)(q:Q wr W)=>LW.out l' r' he g g' la' ra' IC rc' W (hkl.of_block (q.below.block g (zLJ hg.1 hsz))) (hkr.of_block (q.below.block g' (zLJ hg'.1 hsz)));have BL:Hid _:=fun(k:BA)(W:World)(q:Q wr W)=>BH.out l' k g la' IC W (hkl.of_block (q.below.block g (zLJ hg.1 hsz))) hc1;have BR:Hid _:=fun(k:BA)(W:World)(q:Q wr W)=>BH.out r' k g' ra' rc' W (hkr.of_block (q.below.block g' (zLJ hg'.1 hsz))) hc2;obtain⟨ky,hky⟩:=xe (S.low l' r');rw[hky]at LW2 HB;rcases Nat.eq_zero_or_pos l'.length with h0|h0
   ·(obtain rfl:=zLN h0;have h2:0<r'.length:=jY he;have p2:(0:Int)<(r'.length:Int):=by exact_mod_cast h2);simp only[zLW]at*
    gi_wp2_with (refine⟨trivial,?_⟩;gi_at_call 167;apply(callsIn_wide.2 (LW2.out _ (Q.refl wr))).mono;rintro e w1⟨rfl,q1⟩)
    refine⟨trivial,(callsIn_wide.2 (BL.out ky _ q1)).mono ?_⟩;rintro e w2⟨⟨ao1,l7,rfl,hA,hAc⟩,rfl⟩;gi_wp2;refine⟨trivial,(callsIn_wide.2 (BR.out ky _ q1)).mono ?_⟩;rintro e w3⟨⟨ao2,cap2,rfl,hB,hBc⟩,rfl⟩;obtain⟨fn,tmps,assign,body,hy,hR⟩:=hY tg i #[sT ky] _ (hJ _ _ _ _ _ hJi (Kept.Be q1 (fun _ _=>rfl))) ⟨ky,HB.out.1,rfl⟩;gi_wp2;refine hR.mono ?_;rintro e W3⟨AR,⟨hk1,rfl,_,hJ3⟩|⟨hk1,rfl,hJx3⟩⟩
    ·(((gi_wp2);go_roundw);case rel=>exact⟨AR,i+1,_,_,ao1,ao2,l7,cap2,m-1,rfl,rfl,HB.out.2.1,HB.out.2.2.1,(zLI.1 HB.out.1).1,Df.qE QE hg hA hk1 (zLV hsz q1.below.size),Df.qE QE hg' hB hk1 (zLV hsz q1.below.size),hAc,hBc,hJ3,fun k hk=>(hk1.tags k (zLJ hk (zLV hsz q1.below.size))).trans (QE k hk),zLV hsz (zLV q1.below.size hk1.size)⟩);case measure=>simp only[lenOf];exact HB.out.2.2.2
    .gi_wp2;refine bodyPost_ret (results_none rfl _ _ _) rfl ?_;exact⟨⟨_,rfl⟩,AR,.inr ⟨_,hJx3⟩⟩
   .have p1:(0:Int)<(l'.length:Int):=by exact_mod_cast h0
    gi_wp2_with (refine⟨trivial,?_⟩;gi_at_call 167;apply(callsIn_wide.2 (LW2.out _ (Q.refl wr))).mono;rintro e w1⟨rfl,q1⟩)
    refine⟨trivial,(callsIn_wide.2 (BL.out ky _ q1)).mono ?_⟩;rintro e w2⟨⟨ao1,l7,rfl,hA,hAc⟩,rfl⟩;gi_wp2;refine⟨trivial,(callsIn_wide.2 (BR.out ky _ q1)).mono ?_⟩;rintro e w3⟨⟨ao2,cap2,rfl,hB,hBc⟩,rfl⟩;obtain⟨fn,tmps,assign,body,hy,hR⟩:=hY tg i #[sT ky] _ (hJ _ _ _ _ _ hJi (Kept.Be q1 (fun _ _=>rfl))) ⟨ky,HB.out.1,rfl⟩;gi_wp2;refine hR.mono ?_;rintro e W3⟨AR,⟨hk1,rfl,_,hJ3⟩|⟨hk1,rfl,hJx3⟩⟩
    ·(((gi_wp2);go_roundw);case rel=>exact⟨AR,i+1,_,_,ao1,ao2,l7,cap2,m-1,rfl,rfl,HB.out.2.1,HB.out.2.2.1,(zLI.1 HB.out.1).1,Df.qE QE hg hA hk1 (zLV hsz q1.below.size),Df.qE QE hg' hB hk1 (zLV hsz q1.below.size),hAc,hBc,hJ3,fun k hk=>(hk1.tags k (zLJ hk (zLV hsz q1.below.size))).trans (QE k hk),zLV hsz (zLV q1.below.size hk1.size)⟩);case measure=>simp only[lenOf];exact HB.out.2.2.2
    .gi_wp2;refine bodyPost_ret (results_none rfl _ _ _) rfl ?_;exact⟨⟨_,rfl⟩,AR,.inr ⟨_,hJx3⟩⟩
end Go.Proofs.YtekdenkllipehaaGreatDoor
