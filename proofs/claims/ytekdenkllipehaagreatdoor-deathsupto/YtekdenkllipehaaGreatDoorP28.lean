import Derived.Test.YtekdenkllipehaaGreatDoorP25
import Derived.Test.YtekdenkllipehaaGreatDoorP26
set_option maxRecDepth 99999
set_option maxHeartbeats 0
namespace Go.Proofs.YtekdenkllipehaaGreatDoor
open Go.RowKit
section
open Go.Shelf
attribute [local go_sem] Oper.semAt_some
def sumOf(fs:List M.Fil)(l:List (Fin fs.length)):Nat:=(l.map fun x=>fs[x.1].bytes.length).sum
theorem aQ(fs:List M.Fil)(l:List (Fin fs.length))(x:Fin fs.length):sumOf fs (l++[x])=sumOf fs l+fs[x.1].bytes.length:=by simp[sumOf]
theorem iC(fs:List M.Fil):sumOf fs (List.finRange fs.length)=M.total fs:=by
 unfold sumOf M.total;congr 1;apply List.ext_getElem (by simp);intro i h1 h2;simp
theorem Y8(fs:List M.Fil)(B:Nat)(hB:∀f∈fs,f.bytes.length<=B):∀l:List (Fin fs.length),sumOf fs l<=l.length*B
 |[]=>by simp[sumOf]
 |x::l=>by
  have h1:=Y8 fs B hB l;have h2:=hB _ (List.getElem_mem x.2);have h3:sumOf fs (x::l)=fs[x.1].bytes.length+sumOf fs l:=by simp[sumOf]
  rw[h3,zLQ,Nat.add_mul];omega
theorem MP{W:World}{B:Nat}{v:Value}{t:TypeId}(v':Value)(h:W.heap[B]?=some (.cells #[v] t (0,0))):(W.setCell (aD B 0) v').heap[B]?=some (.cells #[v'] t (0,0)):=by
 have:=heap_setCell_same W B 0 #[v] t v' h;simpa using this
theorem UJ(tg:Tags)(o d:Nat)(D:M.Dsk)(ids ps:List Nat)(hD:D.BS)(w:World)(h:AJ w tg o d D ids ps):
  Calls Tryz.prog 56 #[pT d] w fun e w'=>e=.returned (iT (M.total D.files:Nat))/\Q w w':=by
 have hl:=hD.good.few;refine(callsIn_wide (n:=6)).1 ?_;refine callsIn_of_wp_marks Tryz.func56 rfl trivial ?_ rfl;simp only[Tryz.ntmps56,zLm,zLQ,zLW,Nat.reduceAdd,Nat.reduceSub,zLj,zLi,zLs,zLl,zLb,zLd]
 gi_wp2_with (refine⟨trivial,?_⟩;apply(all_in _ _ _).mono;rintro e w'⟨rfl,rfl⟩)
 have hQ:Q w ((w.alloc (.cells #[iT 0] 3)).alloc (.cells #[.pointer (some (aD d 1))] 87)):=((Q.refl w).alloc _ _).alloc _ _;refine wpIn_rangeFunc_ownG rfl (by decide) (gf:=38) (lb:=#[pT (w.heap.size+1)]) (by simp[Act.eval]) trivial (enters_of Tryz.func38 (by kernel_rfl) rfl)
  (all_stops tg o d D.files ps hl 5 (by decide) (w.heap.size+1) w _ h.map hQ (by simp) (by simp)) (fun h k=>Cm.trans h k) (Cm.put (fun k hk=>hk.elim (fun e=>by subst e;simp) (fun e=>by have:=e.1;simp;omega))) (Below.refl _ _) (fun _=>rfl)
  (fun pre W=>W.heap[w.heap.size]?=some (.cells #[iT (sumOf D.files pre:Nat)] 3 (0,0))/\Below w.heap.size w W)
  (fun _ _ _=>False) ?hI (fun _ _ _ _ _ hs _ _=>hs) ?h0
  (fun x=>{ tmps:=#[pT d,undef,iT 0,pT w.heap.size,undef,.pointer (some ⟨ps[x.1]?.getD 0,0,none⟩),pT d,pT d,.pointer (some (aD d 1)),.func (.func 38) #[] #[pT (w.heap.size+1)],sT D.files[x.1].name,.pointer (some ⟨ps[x.1]?.getD 0,0,none⟩),undef,undef,undef,undef,undef,undef,undef,undef],defers:=[]}) ?assign ?body ?done ?stop
 case hI =>
  intro pre A B row hs hg hr;refine⟨(hg.block _ (zLM.1 hs.1).1 (fun e=>?_)).trans hs.1,?_⟩
  .have:=(hr _ e.symm).1;simp at this;omega
  .exact hs.2.grown hg hs.2.size (fun k e=>by have:=(hr k e).1;simp at this;omega)
 case h0=>exact⟨((Below.refl _ _).alloc (zLK _) _:Below (w.alloc (.cells #[iT 0] 3)).heap.size (w.alloc (.cells #[iT 0] 3)) _).block w.heap.size (by simp) |>.trans (heap_alloc_new w _),hQ.below⟩
 case assign =>
  intro l x W K hK;simp only[mapEntry];gi_wp2;exact hK
 case body =>
  rintro l pre x W⟨hc,hW⟩hlen;have hx:x.1<ps.length:=by have:=h.map.len;simp at this;have:=x.2;omega
  have hxi:x.1<ids.length:=by rw[h.F9];exact x.2
  obtain⟨bo,bc,hF⟩:=h.file x.1 _ _ _ (zLH hx) (zLH hxi) (zLH x.2);have k0:=(hW.cell (p:=⟨ps[x.1],0,none⟩) hF.top).trans hF.c0;have hpe:ps[x.1]?.getD 0=ps[x.1]:=by simp[List.getElem?_eq_getElem hx]
  rw[hpe];have k1:W.cell? (aD w.heap.size 0)=some (iT (sumOf D.files pre:Nat)):=by simp[World.cell?,hc]
  have k2:W.frozen? (aD w.heap.size 0)=false:=frozen_of_row W _ 0 _ _ hc;have hb1:=Y8 D.files 1048576 (fun f hf=>hD.good.small hf) pre;have hb2:=hD.good.small (List.getElem_mem x.2);have hb3:pre.length*1048576<=67108864:=by omega
  have hsum:=aQ D.files pre x;obtain⟨s0,hs0⟩:=xe (sumOf D.files pre);obtain⟨s1,hs1⟩:=xe (D.files[x.1].bytes.length);rw[hs0]at hb1 k1;rw[hs1]at hb2 k0;rw[hs0,hs1]at hsum;have hwr:IntKind.i64.wrap ((s0:Int)+(s1:Int))=(s0:Int)+(s1:Int):=by rw[IntKind.wrap_i64];omega
  have HR:Hid (KeepsFrom (w.heap.size+1+1) W ((W.setCell (aD w.heap.size 0) (iT ((s0:Int)+(s1:Int)))).drew)/\Cm (Vo tg o (w.heap.size+1) w.heap.size) W ((W.setCell (aD w.heap.size 0) (iT ((s0:Int)+(s1:Int)))).drew) /\
    (((W.setCell (aD w.heap.size 0) (iT ((s0:Int)+(s1:Int)))).drew).heap[w.heap.size]?=some (.cells #[iT (sumOf D.files (pre++[x]):Nat)] 3 (0,0))/\Below w.heap.size w ((W.setCell (aD w.heap.size 0) (iT ((s0:Int)+(s1:Int)))).drew))):=by
   refine⟨KeepsFrom.of_grownBy ((Au W w.heap.size 0 [iT ((s0:Int)+(s1:Int))]).trans (FX _ _)) (fun j e=>by cases e;omega),
    ⟨by simp,fun k hk=>heap_setCell_other W (aD w.heap.size 0) k _ (hk.elim (fun e=>by subst e;simp) (fun e=>by have:=e.1;simp;omega))⟩,?_,(hW.setCell (p:=(aD w.heap.size 0)) (zLK _) _).drew⟩
   rw[hsum];exact MP _ hc
  have hmx:Tryz.prog.follows .mixedOrders=true:=by kernel_rfl
  clear hQ h hF hc;gi_wp2
  gi_region_o
  all_goals gi_wp2
  all_goals exact⟨by simpa using HR.out.1,HR.out.2.1,HR.out.2.2⟩
 case done =>
  rintro E ys W hE rfl⟨hc,hW⟩hK;rw[iC]at hc;have k1:W.cell? (aD w.heap.size 0)=some (iT (M.total D.files:Nat)):=by simp[World.cell?,hc]
  have HB:=h_ hW;clear hc hW hQ h;gi_wp2;refine⟨by simp,.inl ⟨_,_,rfl,run_takeDeferred hK,?_⟩⟩;exact⟨_,results_tmp rfl _ _ _,rfl,⟨HB.out.trans (belowK_b (w:=w) (zLK _) W E _ _ (by simp at hE;omega) hK rfl rfl)⟩⟩
 case stop =>
  rintro D c pre W _ _ h _;exact h.elim
end
section
variable{D:M.Dsk}{bc d id o p:Nat}{bo:Option Addr}{f:M.Fil}{ids ps:List Nat}{tg:Tags}{w:World}
def M.Dsk.chg(D:M.Dsk)(c:Nat):M.Dsk×Nat:=
 if D.dead=true then(D,10)else if c≠0 then(D,c)else match D.dies with|(E,true)=>(E,10)|(E,false)=>(E,0)
theorem E8(D:M.Dsk)(c:Nat):(D.chg c).1.files=D.files:=by
 unfold M.Dsk.chg;have h:=(M.C9 D).1;split
 .rfl
 .split
  .rfl
  .split
   .rename_i E hE;rw[hE]at h;exact h
   .rename_i E hE;rw[hE]at h;exact h
theorem M.Dsk.BS.chg{D:M.Dsk}(h:D.BS)(c:Nat):(D.chg c).1.BS:=by
 unfold M.Dsk.chg;have hd:=h.dies;split
 .exact h
 .split
  .exact h
  .split
   .rename_i E hE;rw[hE]at hd;exact hd
   .rename_i E hE;rw[hE]at hd;exact hd
def codeOf(b:Bool):Nat:=if b=true then 0 else 7
theorem Ky(D:M.Dsk)(nm new:BA):D.changed nm new=((D.chg (codeOf ((M.place D.files nm).isSome&&M.Bh new))).1,(if(D.chg (codeOf ((M.place D.files nm).isSome&&M.Bh new))).2=0 then(M.place D.files nm).getD 0 else 0),(D.chg (codeOf ((M.place D.files nm).isSome&&M.Bh new))).2):=by
 unfold M.Dsk.changed M.Dsk.chg codeOf;by_cases hd:D.dead=true
 .simp[hd]
 .simp only[if_neg hd]
  cases hp:M.place D.files nm with
  |none=>simp
  |some i =>
   cases ho:M.Bh new
   .simp
   .simp only[zLX,Bool.and_true,if_true,ne_eq,not_true_eq_false,if_false,zLT,Bool.true_eq_false];split<;>simp_all
def CZ(D:M.Dsk)(nm:BA)(n:Nat):Nat:=
 if M.Bh nm=false then 7 else if D.cap<M.total D.files+n\/(M.place D.files nm=none/\64<=D.files.length)then 9 else 0
theorem fE(D:M.Dsk)(nm:BA)(s:List UInt8):D.append nm s=match D.chg (CZ D nm s.length)with
  |(E,0)=>(match M.place E.files nm with
   |some i=>({ E with files:=E.files.modify i fun f=>{ f with bytes:=f.bytes++s }},0)
   |none=>({ E with files:=M.put E.files ⟨nm,s,0⟩},0))
  |(E,c)=>(E,c):=by
 unfold M.Dsk.append M.Dsk.chg CZ;by_cases hd:D.dead=true
 .simp[hd]
 .simp only[if_neg hd];by_cases ho:M.Bh nm=false
  .simp[ho]
  .simp only[if_neg ho];by_cases hr:D.cap<M.total D.files+s.length\/(M.place D.files nm=none/\64<=D.files.length)
   .simp only[if_pos hr];simp
   .simp only[if_neg hr];simp only[ne_eq,not_true_eq_false,if_false];split
    .rename_i E hE;simp[hE]
    .rename_i E hE;simp only[hE]
     cases M.place E.files nm<;>rfl
theorem AJ.T9(h:AJ w tg o d D ids ps)(n:Nat):AJ (w.setCell (aD d 4) (iT (n:Int))) tg o d ⟨D.cap,D.files,D.dead,n⟩ ids ps:=by
 have hg:w.grownBy (w.setCell (aD d 4) (iT (n:Int))) (some d):=⟨rfl,rfl,rfl,by simp,fun k _ hk=>heap_setCell_other w (aD d 4) k _ (fun e=>hk (by simp[e]))⟩;exact h.header hg (fun j=>by rw[zMK];exact h.map.fr j) (zMH _ _ _ _ (by simp)) (zMH _ _ _ _ (by simp)) D.dead n (by rw[zMH _ _ _ _ (by simp)];exact h.c0) (by rw[zMH _ _ _ _ (by simp)];exact h.c3) (zMJ _ _ _ h.c4)
theorem AJ.lW(h:AJ w tg o d D ids ps)(b:Bool):AJ (w.setCell (aD d 3) (.bool b)) tg o d ⟨D.cap,D.files,b,D.Ae⟩ ids ps:=by
 have hg:w.grownBy (w.setCell (aD d 3) (.bool b)) (some d):=⟨rfl,rfl,rfl,by simp,fun k _ hk=>heap_setCell_other w (aD d 3) k _ (fun e=>hk (by simp[e]))⟩;exact h.header hg (fun j=>by rw[zMK];exact h.map.fr j) (zMH _ _ _ _ (by simp)) (zMH _ _ _ _ (by simp)) b D.Ae (by rw[zMH _ _ _ _ (by simp)];exact h.c0) (zMJ _ _ _ h.c3) (by rw[zMH _ _ _ _ (by simp)];exact h.c4)
theorem FY(tg:Tags)(o d:Nat)(D:M.Dsk)(ids ps:List Nat)(c:Nat)(hf:D.Ae<=9223372036854775807)(w:World)(h:AJ w tg o d D ids ps):
  Calls Tryz.prog 42 #[pT d,iT (c:Int)] w fun e w'=>e=.returned (iT ((D.chg c).2:Nat))/\AJ w' tg o d (D.chg c).1 ids ps/\Only o tg w w':=by
 have HD:=h_ h;have htop:=h.map.top;have htd:=h.map.td;have c3:=h.c3;have c4:=h.c4;have f3:=h.map.fr 3;have f4:=h.map.fr 4;unfold M.Dsk.chg
 cases hd:D.dead
 .rw[hd]at c3;simp only[zM8,if_false];by_cases hc:c=0
  .subst hc;simp only[ne_eq,not_true_eq_false,if_false];unfold M.Dsk.dies;by_cases h0:0<D.Ae
   ·(((obtain⟨n,hn⟩:∃n,D.Ae=n+1:=⟨D.Ae-1,by omega⟩;rw[if_pos h0];simp only[hn,zM7];rw[hn]at c4;have w1:IntKind.i64.wrap ((n:Int)+1-1)=(n:Int):=by rw[IntKind.wrap_i64];omega);have w2:IntKind.i64.wrap (n:Int)=(n:Int):=by rw[IntKind.wrap_i64];omega);have hd0:(((n:Int)+1)==0)=false:=by rw[zM9];omega);by_cases hn0:n=0
    .subst hn0;simp only[decide_true];have HD2:Hid (AJ ((w.setCell (aD d 4) (iT ((0:Nat):Int))).setCell (aD d 3) (.bool true)) tg o d ⟨D.cap,D.files,true,0⟩ ids ps):=(HD.out.T9 0).lW _;have HO:Hid (Only o tg w ((w.setCell (aD d 4) (iT ((0:Nat):Int))).setCell (aD d 3) (.bool true))):=Fj (Fj (Only.refl o tg w) (fun k _ e=>by rw[e,htd]) 4 _) (fun k _ e=>by rw[e,htd]) 3 _;go_in;go_wp2;go_ret;exact⟨rfl,HD2.out,HO.out⟩
    ·(simp only[decide_eq_false hn0];have HD2:=h_ (HD.out.T9 n);rw[hd]at HD2;have HO:Hid (Only o tg w (w.setCell (aD d 4) (iT (n:Int)))):=Fj (Only.refl o tg w) (fun k _ e=>by rw[e,htd]) 4 _;have hz0:((n:Int)==0)=false:=by rw[zM9];omega);go_in;go_wp2;go_ret;exact⟨rfl,HD2.out,HO.out⟩
   ·(rw[if_neg h0];have hz:D.Ae=0:=by omega);rw[hz]at c4;simp only[hd];go_in;go_wp2;go_ret;exact⟨rfl,HD.out,Only.refl o tg w⟩
  .rw[if_pos hc];have hcz:((c:Int)==0)=false:=by rw[zM9];omega
   go_in;go_wp2;go_ret;exact⟨rfl,HD.out,Only.refl o tg w⟩
 .rw[hd]at c3;simp only[if_true];go_in;go_wp2;go_ret;exact⟨rfl,HD.out,Only.refl o tg w⟩
theorem yG(tg:Tags)(o d:Nat)(D:M.Dsk)(ids ps:List Nat)(n:Int)(w:World)(h:AJ w tg o d D ids ps):
  Calls Tryz.prog 13 #[pT d,iT n] w fun e w'=>e=.returned (iT ((D.arm n).2:Nat))/\AJ w' tg o d (D.arm n).1 ids ps/\Only o tg w w':=by
 have HD:=h_ h;have htop:=h.map.top;have htd:=h.map.td;have c4:=h.c4;have f4:=h.map.fr 4;unfold M.Dsk.arm;by_cases h0:n<0
 .rw[if_pos h0];go_in;go_wp2;go_ret;exact⟨rfl,HD.out,Only.refl o tg w⟩
 .rw[if_neg h0];obtain⟨m,rfl⟩:=Int.eq_ofNat_of_zero_le (show 0<=n by omega);have HD2:Hid _:=HD.out.T9 m;have HO:Hid _:=Fj (Only.refl o tg w) (fun k _ e=>by rw[e,htd]) 4 (iT (m:Int));go_in;go_wp2;go_ret;exact⟨rfl,HD2.out,HO.out⟩
theorem Ey(b:Bool)(w:World):
  Calls Tryz.prog 45 #[.bool b] w fun e w'=>e=.returned (iT (codeOf b:Nat))/\w'=w:=by
 cases b
 .go_in;go_wp2;go_ret;exact⟨rfl,rfl⟩
 .go_in;go_wp2;go_ret;exact⟨rfl,rfl⟩
theorem NA(nm:BA)(w:World):
  Calls Tryz.prog 69 #[sT nm] w fun e w'=>e=.returned (.bool (M.Bh nm))/\Q w w':=by
 have h1:M.Bh nm=(decide (1<=nm.size)&&decide (nm.size<=32)):=by unfold M.Bh;rw[Bool.decide_and]
 rw[h1];by_cases ha:1<=nm.size
 .by_cases hb:nm.size<=32
  .have d1:decide ((1:Int)<=(nm.size:Int))=true:=by rw[zMF];omega
   (have d2:decide ((nm.size:Int)<=32)=true:=by rw[zMF];omega);rw[decide_eq_true ha,decide_eq_true hb];go_in;go_wp2;go_ret;exact⟨rfl,Q.refl w⟩
  .have d1:decide ((1:Int)<=(nm.size:Int))=true:=by rw[zMF];omega
   (have d2:decide ((nm.size:Int)<=32)=false:=by rw[decide_eq_false_iff_not];omega);rw[decide_eq_true ha,decide_eq_false hb];go_in;go_wp2;go_ret;exact⟨rfl,Q.refl w⟩
 .have d1:decide ((1:Int)<=(nm.size:Int))=false:=by rw[decide_eq_false_iff_not];omega
  rw[decide_eq_false ha];go_in;go_wp2;go_ret;exact⟨rfl,Q.refl w⟩
theorem YC(tg:Tags)(o:Nat)(w:World)(c:Nat)(t:TypeId):AJ (w.alloc (.cells #[iT (c:Int),nS,nS,.bool false,iT 0] t)) (tg.more w.heap.size o 0) o w.heap.size ⟨c,[],false,0⟩ [] []:=by
 refine⟨⟨fun j=>by simp,Tags.Ay (zLK _),by simp,⟨none,0,by simp[Am],World.ownsRow_nil _ _ _ _,fun g hg=>by simp[Value.ownBlock]at hg⟩,⟨none,0,by simp[Am],World.ownsRow_nil _ _ _ _,fun g hg=>by simp[Value.ownBlock]at hg⟩,rfl⟩,by simp,by simp,by simp,List.nodup_nil,rfl,fun i p id f h1 _ _=>by simp at h1⟩
theorem QZ(c:Nat)(hc:c<=1048576)(tg:Tags)(o:Nat)(w:World):
  Calls Tryz.prog 10 #[iT (c:Int)] w fun e w'=>e=.returned (.tuple #[pT w.heap.size,iT 0])/\AJ w' (tg.more w.heap.size o 0) o w.heap.size ⟨c,[],false,0⟩ [] []/\Q w w':=by
 have d1:decide ((c:Int)<0)=false:=by rw[decide_eq_false_iff_not];omega
 have d2:decide ((1048576:Int)<(c:Int))=false:=by rw[decide_eq_false_iff_not];omega
 have HN:Hid _:=YC tg o w c 58;go_in;go_wp2_with fail
 go_ret2
 exact⟨rfl,HN.out,(Q.refl w).alloc _ _⟩
theorem zAQ:M.Bh M.one=true:=by decide
theorem Oa{c:Nat}(h:(D.chg c).2=0):c=0/\(D.chg c).1.dead=false:=by
 unfold M.Dsk.chg at h⊢;split
 .rename_i hd;rw[if_pos hd]at h;simp at h
 .rename_i hd;rw[if_neg hd]at h;split
  .rename_i hc;rw[if_pos hc]at h;exact absurd h hc
  .rename_i hc;rw[if_neg hc]at h;refine⟨by simpa using hc,?_⟩;have hds:∀E b,D.dies=(E,b)->b=false->E.dead=false:=fun E b he hb=>by
    unfold M.Dsk.dies at he;split at he
    .simp only[Prod.mk.injEq]at he;rw[<-he.1,he.2,hb]
    .simp only[Prod.mk.injEq]at he;rw[<-he.1,he.2,hb]
   split
   .rename_i E hE;rw[hE]at h;simp at h
   .rename_i E hE;exact hds E false hE rfl
theorem oD(D:M.Dsk)(nm:BA):D.sync nm=if(D.chg (codeOf (M.place D.files nm).isSome)).2=0 then({ (D.chg (codeOf (M.place D.files nm).isSome)).1 with files:=D.files.modify ((M.place D.files nm).getD 0) fun f=>{ f with synced:=f.bytes.length }},0)else D.chg (codeOf (M.place D.files nm).isSome):=by
 unfold M.Dsk.sync;rw[Ky,zAQ,Bool.and_true];have hf:=E8 D (codeOf (M.place D.files nm).isSome);obtain⟨⟨E,c⟩,hE⟩:=xe (D.chg (codeOf (M.place D.files nm).isSome));rw[hE]at hf⊢;simp only at hf⊢;by_cases hc:c=0
 .subst hc;simp[hf]
 .simp only[if_neg hc]
theorem bB(D:M.Dsk)(nm:BA):D.remove nm=if(D.chg (codeOf (M.place D.files nm).isSome)).2=0 then({ (D.chg (codeOf (M.place D.files nm).isSome)).1 with files:=D.files.eraseIdx ((M.place D.files nm).getD 0)},0)else D.chg (codeOf (M.place D.files nm).isSome):=by
 unfold M.Dsk.remove;rw[Ky,zAQ,Bool.and_true];have hf:=E8 D (codeOf (M.place D.files nm).isSome);obtain⟨⟨E,c⟩,hE⟩:=xe (D.chg (codeOf (M.place D.files nm).isSome));rw[hE]at hf⊢;simp only at hf⊢;by_cases hc:c=0
 .subst hc;simp[hf]
 .simp only[if_neg hc]
theorem BF.XW(h:BF w tg o p id f bo bc)(n:Nat):BF (w.setCell (aD p 1) (iT (n:Int))) tg o p id { f with synced:=n } bo bc:=by
 refine⟨by rw[zMH _ _ _ _ (by simp)];exact h.c0,zMJ _ _ _ h.c1,fun j=>by rw[zMK];exact h.fr j,?_,h.tp,h.tb,by simpa using h.top⟩;refine Ai h.own (fun g hg=>heap_setCell_other w (aD p 1) g _ (fun e=>?_));simp at e;have:=h.tb g hg;rw[e]at this;exact DV this (by omega) h.tp
theorem AJ.XW{w:World}{tg:Tags}{o d:Nat}{D:M.Dsk}{ids ps:List Nat}(h:AJ w tg o d D ids ps){i p id:Nat}{f:M.Fil}{bo:Option Addr}{bc:Nat}(hp:ps[i]?=some p)(hid:ids[i]?=some id)(hf:D.files[i]?=some f)(hF:BF w tg o p id f bo bc)(n:Nat):
  AJ (w.setCell (aD p 1) (iT (n:Int))) tg o d ⟨D.cap,D.files.set i { f with synced:=n },D.dead,D.Ae⟩ ids ps:=
 h.turn hp hid hf (by simp) (fun _ _=>rfl) (fun k _ h1 _=>heap_setCell_other w (aD p 1) k _ (fun e=>h1 (by simp at e;rw[e];exact hF.tp))) _ rfl (hF.XW n)
theorem Gf(h:AJ w tg o d D ids ps){nm:BA}{i:Nat}(hp:M.place D.files nm=some i):
  ∃f p id,D.files[i]?=some f/\ps[i]?=some p/\ids[i]?=some id/\Ny ps (some i)=pT p/\f.name=nm:=by
 obtain⟨f,hf,hn,_⟩:=M.Cf hp;have hi:i<D.files.length:=(zLI.1 hf).1;have h1:i<ps.length:=by have:=h.map.len;simp at this;omega
 have h2:i<ids.length:=by have:=h.F9;omega
 exact⟨f,ps[i],ids[i],hf,zLH h1,zLH h2,by simp[Ny,List.getElem?_eq_getElem h1],M.EK.1 hn⟩
theorem UI(tg:Tags)(o d:Nat)(D:M.Dsk)(ids ps:List Nat)(hD:D.BS)(nm:BA)(w:World)(h:AJ w tg o d D ids ps):
  Calls Tryz.prog 28 #[pT d,sT nm] w fun e w'=>e=.returned (iT ((D.sync nm).2:Nat))/\Bg tg o d (D.sync nm).1 w w':=by
 rw[oD];have HG:=hU (Lp tg o d D.files ps hD.sorted hD.good.few nm w h.map);have HC:Hid _:=fun(c:Nat)(W:World)(hW:AJ W tg o d D ids ps)=>FY tg o d D ids ps c hD.Ae W hW;have HD:=h_ h;have HF:Hid _:=E8 D (codeOf (M.place D.files nm).isSome)
 cases hp:M.place D.files nm with
 |none =>
  rw[hp]at HG HF;obtain⟨⟨E,c⟩,hE⟩:=xe (D.chg (codeOf false));have hc:¬(c=0):=fun e=>by
   have:=Oa (D:=D) (c:=codeOf false) (by rw[hE];exact e);simp[codeOf]at this
  have hcb:((c:Int)==0)=false:=by rw[zM9];omega
  simp only[zLo,hE,if_neg hc];have Ul:Hid _:=fun(W:World)(hW:AJ W tg o d D ids ps)=>HC.out (codeOf false) W hW;rw[hE]at Ul;go_in;go_wp2_with fail;apply(HG.out ()).mono;rintro e w1⟨rfl,q1⟩;have GY:=hU (Ul.out w1 (HD.out.kept q1));simp only[Ny,zLo];go_wp2_with fail;apply(Ey false w1).mono;rintro e w2⟨rfl,hw2⟩;subst hw2;go_wp2_with fail;apply(GY.out ()).mono;rintro e w3⟨rfl,hL,hO⟩;have OB:=h_ (Bg.same hL ((Only.Be q1).trans hO));go_wp2;go_ret;exact⟨rfl,OB.out⟩
 |some i =>
  rw[hp]at HG HF;obtain⟨f,p,id,e1,e2,e3,e4,_⟩:=Gf h hp;rw[e4]at HG;obtain⟨⟨E,c⟩,hE⟩:=xe (D.chg (codeOf true));have hfe:E.files=D.files:=by have:=HF.out;rw[zLX,hE]at this;exact this
  simp only[zLX,hE,zLT];have Ul:Hid _:=fun(W:World)(hW:AJ W tg o d D ids ps)=>HC.out (codeOf true) W hW;rw[hE]at Ul;by_cases hc:c=0
  .subst hc;rw[if_pos rfl];have HM:Hid (D.files.modify i (fun f=>{ f with synced:=f.bytes.length })=E.files.set i { f with synced:=f.bytes.length }):=by
    rw[hfe];exact M.EL _ e1
   have e1':E.files[i]?=some f:=by rw[hfe];exact e1
   have HP:=h_3 e2 e3 e1';go_in;go_wp2_with fail;apply(HG.out ()).mono;rintro e w1⟨rfl,q1⟩;have GY:=hU (Ul.out w1 (HD.out.kept q1));simp only[zLX];go_wp2_with fail;apply(Ey true w1).mono;rintro e w2⟨rfl,hw2⟩;subst hw2;go_wp2_with fail;apply(GY.out ()).mono;rintro e w3⟨rfl,hL,hO⟩;obtain⟨bo,bc,hF⟩:=hL.file i p id f HP.out.1 HP.out.2.1 HP.out.2.2;have c0:=hF.c0;have c1:=hF.c1;have f1:=hF.fr 1;have OB:Hid (Bg tg o d ⟨E.cap,D.files.modify i (fun f=>{ f with synced:=f.bytes.length }),E.dead,E.Ae⟩ w (w3.setCell (aD p 1) (iT (f.bytes.length:Nat)))):=by
    have:=Bg.same (w:=w) (hL.XW HP.out.1 HP.out.2.1 HP.out.2.2 hF f.bytes.length) (Fj ((Only.Be q1).trans hO) (fun k hk e=>by rw[e,hF.tp]) 1 _);rw[HM.out];exact this
   obtain⟨n,hn⟩:=xe f.bytes.length;rw[hn]at c0 OB;go_wp2;go_ret;exact⟨rfl,OB.out⟩
  .rw[if_neg hc];have hcb:((c:Int)==0)=false:=by rw[zM9];omega
   go_in;go_wp2_with fail;apply(HG.out ()).mono;rintro e w1⟨rfl,q1⟩;have GY:=hU (Ul.out w1 (HD.out.kept q1));simp only[zLX];go_wp2_with fail;apply(Ey true w1).mono;rintro e w2⟨rfl,hw2⟩;subst hw2;go_wp2_with fail;apply(GY.out ()).mono;rintro e w3⟨rfl,hL,hO⟩;have OB:=h_ (Bg.same hL ((Only.Be q1).trans hO));go_wp2;go_ret;exact⟨rfl,OB.out⟩
theorem AJ.erased{w':World}(h:AJ w tg o d D ids ps)(i:Nat)(hn:GK tg o d (Am (D.files.eraseIdx i)) (ps.eraseIdx i) w w'):
  ∃AU:Tags,(∀k,k<w.heap.size->AU k=tg k)/\AJ w' AU o d ⟨D.cap,D.files.eraseIdx i,D.dead,D.Ae⟩ (ids.eraseIdx i) (ps.eraseIdx i)/\Jy tg o d w w':=by
 obtain⟨AU,h1,h2,h3⟩:=hn;refine⟨AU,h1,h.vY h3 h1 h2 (h.nodup.sublist (List.eraseIdx_sublist ..)) (by have:=h.F9;rw[List.length_eraseIdx,List.length_eraseIdx,this]) (fun j p id f e1 e2 e3=>h.file _ p id f (M9 e1) (M9 e2) (M9 e3)),h3⟩
theorem eH(tg:Tags)(o d:Nat)(D:M.Dsk)(ids ps:List Nat)(hD:D.BS)(nm:BA)(w:World)(h:AJ w tg o d D ids ps):
  Calls Tryz.prog 92 #[pT d,sT nm] w fun e w'=>e=.returned (iT ((D.remove nm).2:Nat))/\Bg tg o d (D.remove nm).1 w w':=by
 rw[bB];have HG:=hU (Lp tg o d D.files ps hD.sorted hD.good.few nm w h.map);have HC:Hid _:=fun(c:Nat)(W:World)(hW:AJ W tg o d D ids ps)=>FY tg o d D ids ps c hD.Ae W hW;have HD:=h_ h;have HF:Hid _:=E8 D (codeOf (M.place D.files nm).isSome)
 cases hp:M.place D.files nm with
 |none =>
  rw[hp]at HG HF;obtain⟨⟨E,c⟩,hE⟩:=xe (D.chg (codeOf false));have hc:¬(c=0):=fun e=>by
   have:=Oa (D:=D) (c:=codeOf false) (by rw[hE];exact e);simp[codeOf]at this
  have hcb:((c:Int)==0)=false:=by rw[zM9];omega
  simp only[zLo,hE,if_neg hc];have Ul:Hid _:=fun(W:World)(hW:AJ W tg o d D ids ps)=>HC.out (codeOf false) W hW;rw[hE]at Ul;go_in;go_wp2_with fail;apply(HG.out ()).mono;rintro e w1⟨rfl,q1⟩;have GY:=hU (Ul.out w1 (HD.out.kept q1));simp only[Ny,zLo];go_wp2_with fail;apply(Ey false w1).mono;rintro e w2⟨rfl,hw2⟩;subst hw2;go_wp2_with fail;apply(GY.out ()).mono;rintro e w3⟨rfl,hL,hO⟩;have OB:=h_ (Bg.same hL ((Only.Be q1).trans hO));go_wp2;go_ret;exact⟨rfl,OB.out⟩
 |some i =>
  rw[hp]at HG HF;obtain⟨f,p,id,e1,e2,e3,e4,_⟩:=Gf h hp;rw[e4]at HG;obtain⟨⟨E,c⟩,hE⟩:=xe (D.chg (codeOf true));have hfe:E.files=D.files:=by have:=HF.out;rw[zLX,hE]at this;exact this
  simp only[zLX,hE,zLT];have Ul:Hid _:=fun(W:World)(hW:AJ W tg o d D ids ps)=>HC.out (codeOf true) W hW;rw[hE]at Ul;have hi:i<E.files.length:=by rw[hfe];exact(zLI.1 e1).1
  by_cases hc:c=0
  .subst hc;rw[if_pos rfl];have HDr:Hid _:=fun(W:World)(hW:AJ W tg o d E ids ps)=>jO tg o d E.files ps (by rw[hfe];exact hD.sorted) (by rw[hfe];exact hD.good.few) nm i (by rw[hfe];exact hp) W hW.map;rw[<-hfe];go_in;go_wp2_with fail;apply(HG.out ()).mono;rintro e w1⟨rfl,q1⟩;have GY:=hU (Ul.out w1 (HD.out.kept q1));simp only[zLX];go_wp2_with fail;apply(Ey true w1).mono;rintro e w2⟨rfl,hw2⟩;subst hw2;go_wp2_with fail;apply(GY.out ()).mono;rintro e w3⟨rfl,hL,hO⟩;have Sj:=hU (HDr.out w3 hL);have HL:Hid _:=hL;have HO:=h_ ((Only.Be q1).trans hO);go_wp2_with fail;apply(Sj.out ()).mono;rintro e w4⟨rfl,hN⟩;have OB:Hid (Bg tg o d ⟨E.cap,E.files.eraseIdx i,E.dead,E.Ae⟩ w w4):=by
    obtain⟨AU,a1,a2,a3⟩:=HL.out.erased i hN;exact⟨AU,_,_,fun k hk=>a1 k (zLJ hk HO.out.size),a2,HO.out.trans a3.only⟩
   go_wp2;go_ret;exact⟨rfl,OB.out⟩
  .rw[if_neg hc];have hcb:((c:Int)==0)=false:=by rw[zM9];omega
   go_in;go_wp2_with fail;apply(HG.out ()).mono;rintro e w1⟨rfl,q1⟩;have GY:=hU (Ul.out w1 (HD.out.kept q1));simp only[zLX];go_wp2_with fail;apply(Ey true w1).mono;rintro e w2⟨rfl,hw2⟩;subst hw2;go_wp2_with fail;apply(GY.out ()).mono;rintro e w3⟨rfl,hL,hO⟩;have OB:=h_ (Bg.same hL ((Only.Be q1).trans hO));go_wp2;go_ret;exact⟨rfl,OB.out⟩
theorem BF.text(h:BF w tg o p id f bo bc):(convert 89 9 (.slice bo f.bytes.length bc)).run Tryz.prog w=.ok (sT ⟨f.bytes.toArray⟩) w:=by
 rcases h.own.2 with⟨hv,h0⟩|⟨g,c,cur,hv,hg,hh,_⟩
 .injection hv with e1 e2 e3;subst e1 e3;have hb:f.bytes=[]:=zLN h0;rw[hb];simp[run_convert_bytes_string w 89 9 5 none 0 0 Tryz.underlying89 Tryz.underlying5 Tryz.underlying9,Conv.bytesToString];rfl
 .injection hv with e1 e2 e3;subst e1 e3;exact run_convert_bytes_back (P:=Tryz.prog) w 89 9 5 (aD g 0) bc f.bytes Tryz.underlying89 Tryz.underlying5 Tryz.underlying9 (fun j hj=>by
   have hp:((aD g 0):Addr).add j=(aD g j):=by unfold Addr.add;split<;>simp_all
   rw[hp,h.own.cellAt j (by omega)];simp[DU,List.getElem?_eq_getElem hj])
theorem MG(tg:Tags)(o d:Nat)(D:M.Dsk)(ids ps:List Nat)(hD:D.BS)(nm:BA)(w:World)(h:AJ w tg o d D ids ps):
  Calls Tryz.prog 26 #[pT d,sT nm] w fun e w'=>e=.returned (.tuple #[sT ⟨(D.read nm).1.toArray⟩,iT ((D.read nm).2:Nat)])/\Q w w':=by
 have HG:=hU (Lp tg o d D.files ps hD.sorted hD.good.few nm w h.map);have HD:=h_ h;have c3:=h.c3;unfold M.Dsk.read
 cases hd:D.dead
 .rw[hd]at c3;simp only[zM8,if_false]
  cases hp:M.place D.files nm with
  |none =>
   rw[hp]at HG;go_in;go_wp2_with fail;apply(HG.out ()).mono;rintro e w1⟨rfl,q1⟩;simp only[Ny,zLo];go_wp2_with fail
   go_ret2
   exact⟨rfl,q1⟩
  |some i =>
   (rw[hp]at HG;obtain⟨f,p,id,e1,e2,e3,e4,_⟩:=Gf h hp;rw[e4]at HG;have he:((D.files[i]?).map fun f=>f.bytes).getD []=f.bytes:=by rw[e1];rfl);simp only[he];go_in;go_wp2_with fail;apply(HG.out ()).mono;rintro e w1⟨rfl,q1⟩;simp only[zLX];obtain⟨bo,bc,hF⟩:=(HD.out.kept q1).file i p id f e2 e3 e1;have c0:=hF.c0;have ht:=hF.text;obtain⟨n,hn⟩:=xe f.bytes.length;rw[hn]at c0 ht;go_wp2_with fail
   go_ret2
   exact⟨rfl,q1⟩
 .rw[hd]at c3;simp only[if_true];go_in;go_wp2_with fail
  go_ret2
  exact⟨rfl,Q.refl w⟩
theorem BF.yM(h:BF w tg o p id f bo bc){j:Nat}(hj:j<f.bytes.length):
  ∃g,bo=some (aD g 0)/\g<w.heap.size/\tg g=(o,4+2*id)/\w.cell? (aD g j)=some (.int .u8 ((f.bytes.getD j 0).toNat:Int))/\w.frozen? (aD g j)=false:=by
 rcases h.own.2 with⟨_,h0⟩|⟨g,c,cur,hv,_,hh,_⟩
 .omega
 .injection hv with e1 e2 e3;subst e1;refine⟨g,rfl,(zLM.1 hh).1,h.tb g rfl,?_,frozen_of_row w g j cur _ hh⟩;rw[h.own.cellAt j (by omega)];simp[DU,List.getElem?_eq_getElem hj,List.getD]
theorem BF.Yp{g:Nat}(h:BF w tg o p id f (some (aD g 0)) bc)(j:Nat)(b:UInt8):BF (w.setCell (aD g j) (.int .u8 (b.toNat:Int))) tg o p id { f with bytes:=f.bytes.set j b } (some (aD g 0)) bc:=by
 have hne:p≠g:=fun e=>by
  have h2:=h.tb g rfl;rw[<-e]at h2;exact DV h2 (by omega) h.tp
 have hx:∀k,((aD g j):Addr)≠(aD p k):=fun k e=>by injection e with e1;exact hne e1.symm
 have hst:=(h.own.stored j (.int .u8 (b.toNat:Int))).1;refine⟨by rw[zMH _ _ _ _ (hx 0)];simpa using h.c0,by rw[zMH _ _ _ _ (hx 1)];exact h.c1,fun k=>by rw[zMK];exact h.fr k,?_,h.tp,?_,by simpa using h.top⟩
 .have:(DU f.bytes).set j (.int .u8 (b.toNat:Int))=DU (f.bytes.set j b):=by simp[DU,List.map_set]
  rw[this]at hst;simpa using hst
 .intro k hk;exact h.tb k (by simpa using hk)
theorem AJ.Yp{w:World}{tg:Tags}{o d:Nat}{D:M.Dsk}{ids ps:List Nat}(h:AJ w tg o d D ids ps){i p id g:Nat}{f:M.Fil}{bc:Nat}(hp:ps[i]?=some p)(hid:ids[i]?=some id)(hf:D.files[i]?=some f)(hF:BF w tg o p id f (some (aD g 0)) bc)(j:Nat)(b:UInt8):
  AJ (w.setCell (aD g j) (.int .u8 (b.toNat:Int))) tg o d ⟨D.cap,D.files.set i { f with bytes:=f.bytes.set j b },D.dead,D.Ae⟩ ids ps:=
 h.turn hp hid hf (by simp) (fun _ _=>rfl) (fun k _ _ h2=>heap_setCell_other w (aD g j) k _ (fun e=>h2 (by simp at e;rw[e];exact hF.tb g rfl))) _ rfl (hF.Yp j b)
theorem rz(tg:Tags)(o d:Nat)(D:M.Dsk)(ids ps:List Nat)(hD:D.BS)(nm:BA)(at_ mask:Int)(w:World)(h:AJ w tg o d D ids ps):
  Calls Tryz.prog 29 #[pT d,sT nm,iT at_,iT mask] w fun e w'=>e=.returned (iT ((D.flip nm at_ mask).2:Nat))/\AJ w' tg o d (D.flip nm at_ mask).1 ids ps/\Only o tg w w':=by
 have HG:=hU (Lp tg o d D.files ps hD.sorted hD.good.few nm w h.map);have HD:=h_ h;unfold M.Dsk.flip
 cases hpl:M.place D.files nm with
 |none =>
  rw[hpl]at HG;simp only;clear h;go_in;go_wp2_with fail;apply(HG.out ()).mono;rintro e w1⟨rfl,q1⟩;have HD1:Hid _:=HD.out.kept q1;simp only[Ny,zLo];go_wp2;go_ret;exact⟨rfl,HD1.out,Only.Be q1⟩
 |some i =>
  rw[hpl]at HG;obtain⟨f,p,id,e1,e2,e3,e4,_⟩:=Gf h hpl;rw[e4]at HG;simp only[e1];clear h hpl e4;by_cases hbad:at_<0\/(f.bytes.length:Int)<=at_\/mask<0\/255<mask
  .rw[if_pos hbad];have arms:∃b1 b2 b3 b4:Bool,b1=decide (at_<0)/\b2=decide ((f.bytes.length:Int)<=at_)/\b3=decide (mask<0)/\b4=decide (255<mask):=⟨_,_,_,_,rfl,rfl,rfl,rfl⟩;obtain⟨b1,b2,b3,b4,h1,h2,h3,h4⟩:=arms;have hor:(b1 || b2 || b3 || b4)=true:=by
    rw[h1,h2,h3,h4];simp only[Bool.or_eq_true,zMF];omega
   clear hbad
   cases b1<;>cases b2<;>cases b3<;>cases b4
   all_goals first
    |(exfalso;simp at hor;done)
    |skip
   all_goals
    have g1:=h1.symm;have g2:=h2.symm;have g3:=h3.symm;have g4:=h4.symm;clear h1 h2 h3 h4 hor;go_in;go_wp2_with fail;apply(HG.out ()).mono;rintro e w1⟨rfl,q1⟩;have hD1:=HD.out.kept q1;obtain⟨bo,bc,hF⟩:=hD1.file i p id f e2 e3 e1;have c0:=hF.c0;have HD1:Hid _:=hD1;simp only[zLX];clear hD1 hF;go_wp2;go_ret;exact⟨rfl,HD1.out,Only.Be q1⟩
  .rw[if_neg hbad];have a1:0<=at_:=by omega
   (((((((((((obtain⟨j,rfl⟩:=Int.eq_ofNat_of_zero_le a1;obtain⟨m,rfl⟩:=Int.eq_ofNat_of_zero_le (show 0<=mask by omega);have hj:j<f.bytes.length:=by omega);have hm:m<256:=by omega);have d1:decide ((j:Int)<0)=false:=by rw[decide_eq_false_iff_not];omega);have d2:decide ((f.bytes.length:Int)<=(j:Int))=false:=by rw[decide_eq_false_iff_not];omega);have d3:decide ((m:Int)<0)=false:=by rw[decide_eq_false_iff_not];omega);have d4:decide ((255:Int)<(m:Int))=false:=by rw[decide_eq_false_iff_not];omega);have j1:(j:Int)<(f.bytes.length:Int):=by omega);have j0:(0:Int)<=(j:Int):=by omega);have hmw:IntKind.u8.wrap (m:Int)=(m:Int):=by rw[IntKind.wrap_u8];omega);have hmt:(UInt8.ofNat m).toNat=m:=by rw[UInt8.toNat_ofNat'];omega);simp only[zLp];rw[M.EL _ e1];clear hbad a1;go_in;go_wp2_with fail;apply(HG.out ()).mono;rintro e w1⟨rfl,q1⟩;have hD1:=HD.out.kept q1;obtain⟨bo,bc,hF⟩:=hD1.file i p id f e2 e3 e1;obtain⟨g,rfl,hgt,QE,cb,fb⟩:=hF.yM hj;have c0:=hF.c0;have hpt:=hF.top;have hxr:=sP (f.bytes.getD j 0) (UInt8.ofNat m);rw[hmt]at hxr;have HDs:Hid _:=hD1.Yp e2 e3 e1 hF j (f.bytes.getD j 0 ^^^ UInt8.ofNat m);have HOs:Hid _:=(Only.Be q1:Only o tg w w1).trans (Fj (Only.refl o tg w1) (fun k _ e=>by rw[e,QE]) j (.int .u8 ((f.bytes.getD j 0 ^^^ UInt8.ofNat m).toNat:Int)));have n1:¬(p=g):=fun e=>by rw[<-e]at QE;exact DV QE (by omega) hF.tp);simp only[zLX];clear hD1 hF e1 e2 e3 QE hmt HG;generalize (f.bytes.getD j 0 ^^^ UInt8.ofNat m).toNat=xr at*;generalize (f.bytes.getD j 0).toNat=xb at*;go_wp2;go_ret;exact⟨rfl,HDs.out,HOs.out⟩
def DX(c:Int)(n:Nat):Nat:=if c<0 then(-(c+1)).toNat%n else c.toNat%n
theorem D9(c:Int){n:Nat}(hn:0<n):DX c n<n:=by
 unfold DX;split<;>exact Nat.mod_lt _ hn
theorem Fh(c:Int)(hc:-9223372036854775808<=c/\c<=9223372036854775807)(n:Nat)(hn:0<n)(w:World):
  Calls Tryz.prog 9 #[iT c,iT (n:Int)] w fun e w'=>e=.returned (iT (DX c n:Nat))/\w'=w:=by
 have hn0:¬((n:Int)=0):=by omega
 have hnb:((n:Int)==0)=false:=by rw[zM9];exact hn0
 unfold DX;by_cases h0:c<0
 .rw[if_pos h0];obtain⟨k,hk⟩:=Int.eq_ofNat_of_zero_le (show 0<=-(c+1) by omega);have w1:IntKind.i64.wrap (c+1)=c+1:=by rw[IntKind.wrap_i64];omega
  have w2:IntKind.i64.wrap (-(c+1))=(k:Int):=by rw[IntKind.wrap_i64];omega
  have e1:((k:Int)).tmod (n:Int)=((k%n:Nat):Int):=rfl;have d0:decide (c<0)=true:=by rw[zMF];exact h0
  rw[hk,zLp];clear hk;go_in;go_wp2;go_ret;exact⟨rfl,rfl⟩
 .rw[if_neg h0];obtain⟨k,rfl⟩:=Int.eq_ofNat_of_zero_le (show 0<=c by omega);have e1:((k:Int)).tmod (n:Int)=((k%n:Nat):Int):=rfl;have d0:decide ((k:Int)<0)=false:=by rw[decide_eq_false_iff_not];exact h0
  rw[zLp];go_in;go_wp2;go_ret;exact⟨rfl,rfl⟩
end
end Go.Proofs.YtekdenkllipehaaGreatDoor
