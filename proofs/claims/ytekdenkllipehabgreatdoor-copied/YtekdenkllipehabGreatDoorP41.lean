import Derived.Test.YtekdenkllipehabGreatDoorP39
set_option maxRecDepth 100000
set_option maxHeartbeats 8000000
namespace Go.Proofs.YtekdenkllipehabGreatDoor
open Go.RowKit Go.Shelf
attribute [local go_sem] Oper.semAt_some
theorem zCt {A B:World} {row:Option Nat} (hg:A.grownBy B row) (hr:∀ r,row=some r→∃ o:Obj,A.heap[r]?=some o∧o.isCells=false) {k:Nat} {c:Array Value} {t:TypeId} {f:Nat × Nat} (hk:A.heap[k]?=some (.cells c t f)):B.heap[k]?=A.heap[k]?:=
 hg.block k (zQh.1 hk).1 (fun e=>by
  obtain ⟨o,ho,hc⟩:=hr k e.symm;rw [hk] at ho
  cases ho
  cases hc)
structure zAk (w:World) (B Bs d:Nat) (names:List ByteArray) (ao:Option Addr) (cap:Nat) (W:World):Prop where
 box:W.heap[B]?=some (.cells #[.slice ao names.length cap] 63 (0,0))
 ptr:W.heap[Bs]?=some (.cells #[.pointer (some ⟨d,1,none⟩)] 120 (0,0))
 row:W.ownsRow w.heap.size 9 1 (.slice ao names.length cap) names.length (zH names)
 below:Below w.heap.size w W
theorem zAk.kept {w:World} {B Bs d:Nat} {names:List ByteArray} {ao:Option Addr} {cap:Nat} {W W':World} (h:zAk w B Bs d names ao cap W) {row:Option Nat} (hg:W.grownBy W' row) (hr:∀ r,row=some r→w.heap.size≤r∧∃ o:Obj,W.heap[r]?=some o∧o.isCells=false):zAk w B Bs d names ao cap W':=by
 have hr2:∀ r,row=some r→∃ o:Obj,W.heap[r]?=some o∧o.isCells=false:=fun r e=>(hr r e).2;refine ⟨(zCt hg hr2 h.box).trans h.box,(zCt hg hr2 h.ptr).trans h.ptr,zO h.row (fun g hgb=>?_),h.below.grown hg h.below.size (fun k e=>(hr k e).1)⟩;obtain ⟨c,hc⟩:=zAX h.row g hgb;exact zCt hg hr2 hc
theorem zAk.push {w:World} {B Bs d:Nat} {names:List ByteArray} {ao:Option Addr} {cap:Nat} {W w6 w7:World} (h:zAk w B Bs d names ao cap W) (nm:ByteArray) (hB:w.heap.size≤B) (hb:Below W.heap.size W w6) {ao':Option Addr} {cap':Nat}
  (hg:(w6.alloc (.cells #[.string nm] 9)).grownBy w7 (Value.slice ao names.length cap).ownBlock) (ho:w7.ownsRow w.heap.size 9 1 (.slice ao' (names.length+1) cap') (names.length+1) (zH names++[.string nm])) :
  w7.cell? ⟨B,0,none⟩=some (.slice ao names.length cap)∧w7.frozen? ⟨B,0,none⟩=false∧zAk w B Bs d (names++[nm]) ao' cap' (w7.setCell ⟨B,0,none⟩ (.slice ao' (names.length+1) cap')) ∧
   (∀ k,k<W.heap.size→k≠B→(Value.slice ao names.length cap).ownBlock≠some k→(w7.setCell ⟨B,0,none⟩ (.slice ao' (names.length+1) cap')).heap[k]?=W.heap[k]?)∧W.heap.size≤w7.heap.size:=by
 have hBW:B<W.heap.size:=(zQh.1 h.box).1;have hsW:=hb.size;have h7:∀ k,k<W.heap.size→(Value.slice ao names.length cap).ownBlock≠some k→w7.heap[k]?=W.heap[k]?:=fun k hk hn=>by
  rw [hg.block k (by simp;omega) (fun e=>hn e.symm),((Below.refl _ w6).alloc (zQf _) _).block k (by omega)];exact hb.block k hk
 have hnB:(Value.slice ao names.length cap).ownBlock≠some B:=fun e=>by
  obtain ⟨c,hc⟩:=zAX h.row B e;rw [h.box] at hc;injection hc with hc;injection hc with _ ht;exact absurd ht (by decide)
 have hnS:(Value.slice ao names.length cap).ownBlock≠some Bs:=fun e=>by
  obtain ⟨c,hc⟩:=zAX h.row Bs e;rw [h.ptr] at hc;injection hc with hc;injection hc with _ ht;exact absurd ht (by decide)
 have hBs:Bs≠B:=fun e=>by
  have h1:=h.ptr;rw [e,h.box] at h1;injection h1 with h1;injection h1 with _ ht;exact absurd ht (by decide)
 have hB7:w7.heap[B]?=some (.cells #[.slice ao names.length cap] 63 (0,0)):=(h7 B hBW hnB).trans h.box;have hs7:W.heap.size≤w7.heap.size:=by have:=hg.size;simp at this;omega
 have hlen:(names++[nm]).length=names.length+1:=by simp
 refine ⟨by simp [World.cell?,hB7],frozen_of_row w7 B 0 _ _ hB7,⟨?_,?_,?_,?_⟩,fun k hk h1 h2=>?_,hs7⟩
 ·rw [hlen];exact zCW _ hB7
 ·rw [heap_setCell_other w7 ⟨B,0,none⟩ Bs _ hBs];exact (h7 Bs (zQh.1 h.ptr).1 hnS).trans h.ptr
 ·rw [hlen];have e:zH (names++[nm])=zH names++[.string nm]:=by simp [zH]
  rw [e];refine zO ho (fun g hgb=>heap_setCell_other w7 ⟨B,0,none⟩ g _ (fun e=>?_));simp at e;obtain ⟨c,hc⟩:=zAX ho g hgb;rw [e,hB7] at hc;injection hc with hc;injection hc with _ ht;exact absurd ht (by decide)
 ·have h1:=((h.below.trans (hb.mono h.below.size)).alloc (by have:=h.below.size;omega) (.cells #[.string nm] 9)).grown hg (by have:=h.below.size;simp;omega) (Ya h.row);exact h1.setCell (p:=⟨B,0,none⟩) hB _
 ·rw [heap_setCell_other w7 ⟨B,0,none⟩ k _ h1];exact h7 k hk h2
theorem zAk.frame {w:World} {B Bs d:Nat} {names:List ByteArray} {ao:Option Addr} {cap:Nat} {W W':World} (h:zAk w B Bs d names ao cap W) (hB:w.heap.size≤B) (hk:∀ k,k<W.heap.size→k≠B→(Value.slice ao names.length cap).ownBlock≠some k→W'.heap[k]?=W.heap[k]?) (hs:W.heap.size≤W'.heap.size) (tg:Tags) (o:Nat) {top:Nat} (ht:B<top) :
  KeepsFrom top W W'∧y7 (zH7 tg o Bs w.heap.size) W W':=by
 refine ⟨⟨hs,fun k ob h1 h2 h3=>?_⟩,⟨hs,fun k hkk=>?_⟩⟩
 ·rw [hk k (zQh.1 h2).1 (by omega) (fun e=>?_)]
  ·exact h2
  ·obtain ⟨c,hc⟩:=zAX h.row k e;rw [h2] at hc;injection hc with hc;subst hc
   cases h3
 ·rcases hkk with rfl|⟨hlt,_⟩
  ·refine hk k (zQh.1 h.ptr).1 (fun e=>?_) (fun e=>?_)
   ·have h1:=h.ptr;rw [e,h.box] at h1;injection h1 with h1;injection h1 with _ ht;exact absurd ht (by decide)
   ·obtain ⟨c,hc⟩:=zAX h.row k e;rw [h.ptr] at hc;injection hc with hc;injection hc with _ ht;exact absurd ht (by decide)
  ·exact hk k (zQe hlt h.below.size) (by omega) (fun e=>by have:=Ya h.row k e;omega)
theorem Yv {F:Fence} {n:Nat} {P:Program} {ops:Array Oper} {o:Oper} {a:Act} {w:World} {K:Act→World→Prop} {Q:Exit→Act→World→Prop} {E:Prop}
  (hg:o.guard=none) (s x:Operand) (t:TypeId) (hop:o.op=Op.call { callee:=Callee.builtin Builtin.append,args:=#[s,x],argTypes:=#[t,t]})
  (v u:Value) (hs:a.eval s=v) (hx:a.eval x=u) {v':Value} {w':World} (hrun:(Builtin.append_ #[t,t] o.type #[v,u]).run P w=.ok v' w') (hK:K (a.put o.dst v') w') :
  if Region.wanted o (yielded ops a.tmps)=true then Oper.wpIn F n P o a w K Q else E:=by
 have hw:Region.wanted o (yielded ops a.tmps)=true:=by simp [Region.wanted,hg]
 rw [if_pos hw];unfold Oper.wpIn;refine ⟨?_,?_⟩
 ·simp [Oper.about,hop,resolve,Target.leads,Sem.run_pure]
 ·rw [Oper.semAt_plain F _ _ (by rw [hop];intro c hc';cases hc')];simp [execOp,hop,resolve,invoke,builtin,hs,hx,hrun,Result.andThen];exact hK
def zAZ (fs:List M.Fil) (l:List (Fin fs.length)):List ByteArray:=l.map fun x=>fs[x.1].name
theorem zIG (fs:List M.Fil):zAZ fs (List.finRange fs.length)=zP fs:=by
 unfold zAZ zP;apply List.ext_getElem (by simp);intro i h1 h2;simp
theorem zMT (tg:Tags) (o d:Nat) (D:M.Dsk) (ids ps:List Nat) (hD:D.yD) (w:World) (h:zC w tg o d D ids ps) :
  Calls Tryz.prog 41 #[.pointer (some ⟨d,0,none⟩)] w fun e w'=>∃ ao cap,e=.returned (.slice ao D.names.length cap)∧zC5 w D.names ao cap w':=by
 have hl:=hD.good.few;have c3:=h.c3;unfold M.Dsk.names
 cases hd:D.dead
 ·rw [hd] at c3;simp only [zRT,if_false];obtain ⟨PN,hPN⟩:∃ PN,(D.files.map fun f=>f.name)=PN:=⟨_,rfl⟩;rw [hPN];obtain ⟨i0,hi,hz0,hz1,hz2⟩:=info_parts zNg;have hmk:∀ W:World,(Instr.makeSlice 63 (.int .i64 0) (.int .i64 (D.files.length:Int))).run Tryz.prog W=.ok (.slice (some ⟨W.heap.size,0,none⟩) 0 D.files.length) (W.alloc (.cells (madeCells #[.string ⟨#[]⟩] D.files.length) 9)):=fun W=>by
   have h:=run_make (P:=Tryz.prog) W 63 9 i0 (.string ⟨#[]⟩) Tryz.underlying63 hi hz0 .i64 .i64 0 (D.files.length:Int) (by omega) (by omega) (by rw [hz2];omega) (by omega);simp only [zRA,hz1,Nat.mul_one] at h;exact h
  refine (callsIn_wide (n:=6)).1 ?_;refine callsIn_of_wp_marks Tryz.func41 rfl trivial ?_ rfl;simp only [Tryz.ntmps41,zR7,zQl,zQr,Nat.reduceAdd,Nat.reduceSub,zR4,zR3,zRD,zR6,zQw,zQy]
  gi_wp2_with (first
   | (refine ⟨trivial,?_⟩;gi_at_call 68;refine (callsIn_wide.2 (zOR tg o d D.files ps w h.map)).mono ?_;rintro e w' ⟨rfl,hw'⟩;have hw2:=hw'.symm;subst hw2)
   | (refine ⟨trivial,?_⟩;gi_at_call 38;refine (all_in _ _ _).mono ?_;rintro e w' ⟨rfl,rfl⟩))
  obtain ⟨wl,hwl⟩:∃ wl,wl=((w.alloc (.cells (madeCells #[.string ⟨#[]⟩] D.files.length) 9)).alloc (.cells #[.slice (some ⟨w.heap.size,0,none⟩) 0 D.files.length] 63)).alloc (.cells #[.pointer (some ⟨d,1,none⟩)] 120):=⟨_,rfl⟩;have hsl:wl.heap.size=w.heap.size+1+1+1:=by rw [hwl];simp
  have hQ:Q w wl:=by rw [hwl];exact (((Q.refl w).alloc _ _).alloc _ _).alloc _ _
  have hb0:wl.heap[w.heap.size]?=some (.cells (madeCells #[.string ⟨#[]⟩] D.files.length) 9 (0,0)):=by
   have h1:(w.alloc (.cells (madeCells #[.string ⟨#[]⟩] D.files.length) 9)).heap[w.heap.size]?=_:=heap_alloc_new w _;have h2:=((Below.refl _ (w.alloc (.cells (madeCells #[.string ⟨#[]⟩] D.files.length) 9))).alloc (zQf _) (.cells #[.slice (some ⟨w.heap.size,0,none⟩) 0 D.files.length] 63)).alloc (by simp) (.cells #[.pointer (some ⟨d,1,none⟩)] 120);rw [hwl,h2.block w.heap.size (by simp)];exact h1
  have hb1:wl.heap[w.heap.size+1]?=some (.cells #[.slice (some ⟨w.heap.size,0,none⟩) 0 D.files.length] 63 (0,0)):=by
   have h1:=heap_alloc_new (w.alloc (.cells (madeCells #[.string ⟨#[]⟩] D.files.length) 9)) (.cells #[.slice (some ⟨w.heap.size,0,none⟩) 0 D.files.length] 63);rw [zRg] at h1;have h2:=(Below.refl _ ((w.alloc (.cells (madeCells #[.string ⟨#[]⟩] D.files.length) 9)).alloc (.cells #[.slice (some ⟨w.heap.size,0,none⟩) 0 D.files.length] 63))).alloc (zQf _) (.cells #[.pointer (some ⟨d,1,none⟩)] 120);rw [hwl,h2.block (w.heap.size+1) (by simp)];exact h1
  have hb2:wl.heap[w.heap.size+1+1]?=some (.cells #[.pointer (some ⟨d,1,none⟩)] 120 (0,0)):=by
   have h1:=heap_alloc_new ((w.alloc (.cells (madeCells #[.string ⟨#[]⟩] D.files.length) 9)).alloc (.cells #[.slice (some ⟨w.heap.size,0,none⟩) 0 D.files.length] 63)) (.cells #[.pointer (some ⟨d,1,none⟩)] 120);rw [zRg,zRg] at h1;rw [hwl];exact h1
  rw [←hwl];clear hwl;refine wpIn_rangeFunc_ownG rfl (by decide) (gf:=61) (lb:=#[.pointer (some ⟨w.heap.size+1+1,0,none⟩)]) (by simp [Act.eval]) trivial (enters_of Tryz.func61 (by kernel_rfl) rfl)
   (all_stops tg o d D.files ps hl 5 (by decide) (w.heap.size+1+1) w wl h.map hQ (by simp [World.cell?,hb2]) (by omega)) (fun h k=>y7.trans h k) (y7.put (fun k hk=>hk.elim (fun e=>by omega) (fun e=>by have:=e.1;omega))) (Below.refl _ _) (fun _=>rfl)
   (fun pre W=>∃ ao cap,zAk w (w.heap.size+1) (w.heap.size+1+1) d (zAZ D.files pre) ao cap W)
   (fun _ _ _=>False) ?hI (fun _ _ _ _ _ hs _ _=>hs) ?h0
   (fun x=>{ tmps:=#[.pointer (some ⟨d,0,none⟩),undef,.slice none 0 0,.pointer (some ⟨w.heap.size+1,0,none⟩),.string D.files[x.1].name,.pointer (some ⟨d,0,none⟩),.pointer (some ⟨d,0,none⟩),.pointer (some ⟨d,3,none⟩),.bool false,.pointer (some ⟨d,0,none⟩),.pointer (some ⟨d,0,none⟩),.pointer (some ⟨d,1,none⟩),.int .i64 (D.files.length:Nat),.slice (some ⟨w.heap.size,0,none⟩) 0 D.files.length,.pointer (some ⟨d,0,none⟩),.pointer (some ⟨d,0,none⟩),.pointer (some ⟨d,1,none⟩),.func (.func 61) #[] #[.pointer (some ⟨w.heap.size+1+1,0,none⟩)],.string D.files[x.1].name,.pointer (some ⟨ps[x.1]?.getD 0,0,none⟩),undef,undef,undef,undef,undef,undef],defers:=[]}) ?assign ?body ?done ?stop
  case hI =>
   rintro pre A B row ⟨ao,cap,hs⟩ hg hr;exact ⟨ao,cap,hs.kept hg (fun r e=>⟨by have:=(hr r e).1;omega,(hr r e).2⟩)⟩
  case h0 =>
   refine ⟨some ⟨w.heap.size,0,none⟩,D.files.length,hb1,hb2,⟨rfl,Or.inr ⟨w.heap.size,D.files.length,_,rfl,zQf _,hb0,zQn _,by simp [maxLen];omega,?_,rfl⟩⟩,hQ.below⟩;rw [size_madeCells];simp
  case assign =>
   intro l x W K hK;simp only [mapEntry];gi_wp2;exact hK
  case body =>
   rintro l pre x W ⟨ao,cap,hN⟩ hlen;have hnl:(zAZ D.files pre).length<64:=by simp [zAZ];omega
   have hnm:=hD.good.name _ (List.getElem_mem x.2);have hlim:D.files[x.1].name.size≤281474976710656:=by unfold M.zy at hnm;simp at hnm;omega
   have hNP:zAZ D.files (pre++[x])=zAZ D.files pre++[D.files[x.1].name]:=by simp [zAZ]
   obtain ⟨nm,hnme⟩:∃ nm,D.files[x.1].name=nm:=⟨_,rfl⟩;obtain ⟨P,hP⟩:∃ P,zAZ D.files pre=P:=⟨_,rfl⟩;rw [hP] at hN hnl hNP;rw [hnme] at hNP hlim ⊢;have HNP:Hid _:=hNP;have HN:Hid _:=hN;have k1:W.cell? ⟨w.heap.size+1,0,none⟩=some (.slice ao P.length cap):=by simp [World.cell?,hN.box]
   have hBW:w.heap.size+1<W.heap.size:=(zQh.1 hN.box).1;have hmx:Tryz.prog.follows .mixedOrders=true:=by kernel_rfl
   clear hQ h hN hb0 hb1 hb2 hnm hnme hP hNP;gi_wp2;refine wpIn_region_any (by assumption) ?_
   try (change wpAnyIn _ _ _ _ _ _ _ _ _ (World.drew _))
   refine wpAnyIn_ready (rs:=[0,1]) (by kernel_rfl) (by simp) ?_;refine AllReadyIn.cons rfl (fun K hK=>?_) ?_
   ·go_simp;refine hK _ _ ?_;clear hK K;refine wpAnyIn_ready (rs:=[1]) (by kernel_rfl) (by simp) ?_;refine AllReadyIn.cons rfl (fun K hK=>?_) ?_
    ·go_simp;refine hK _ _ ?_;clear hK K;refine wpAnyIn_ready (rs:=[2]) (by kernel_rfl) (by simp) ?_;refine AllReadyIn.cons rfl (fun K hK=>?_) ?_
     ·go_simp
      gi_wp2_with (refine ⟨trivial,?_⟩;gi_at_call 47;refine (CallsIn.inRound l (callsIn_wide.2 (Zf nm _ hlim))).mono ?_;rintro e w6 ⟨rfl,b6⟩;have b7:Below W.heap.size W w6:=((Below.refl _ W).drew).trans b6;have k6:=(b7.cell (p:=⟨w.heap.size+1,0,none⟩) hBW).trans k1;have hB6:w.heap.size+1<w6.heap.size:=zQe hBW b7.size;obtain ⟨v',w7,hrun,r1,r2,_⟩:=run_append_own (P:=Tryz.prog) (w6.alloc (.cells #[.string nm] 9)) w.heap.size 63 63 9 i0 (.string ⟨#[]⟩) 1 16 Tryz.underlying63 hi hz0 hz1 hz2 rfl (by decide) (.slice ao P.length cap) P.length (zH P) ((own_below HN.out.row b7).alloc _) ⟨w6.heap.size,0,none⟩ 1 1 [.string nm] rfl (one_cell w6 (.string nm) 9) (by intro u hu;simp at hu;subst hu;rfl) (by simp [maxLen];omega) (by omega) (by simp;omega);obtain ⟨ao',cap',rfl⟩:=zJ r1;obtain ⟨m1,m2,m3,m4,m5⟩:=HN.out.push nm (by omega) b7 r2 r1;have HM:Hid _:=And.intro m3 (And.intro m4 m5);clear r1 r2 m3 m4 m5 b6)
      try (refine hK _ _ ?_;clear hK K)
      refine wpAnyIn_ready (rs:=[3]) (by kernel_rfl) (by simp) ?_;refine AllReadyIn.cons rfl (fun K hK=>?_) ?_
      ·go_simp;refine hK _ _ ?_;clear hK K;refine wpAnyIn_ready (rs:=[4]) (by kernel_rfl) (by simp) ?_;refine AllReadyIn.cons rfl (fun K hK=>?_) ?_
       ·refine Yv rfl (.tmp 20) (.tmp 23) 63 rfl (.slice ao P.length cap) (.slice (some ⟨w6.heap.size,0,none⟩) 1 1) (by simp [Act.eval]) (by simp [Act.eval]) hrun ?_;refine hK _ _ ?_;clear hK K
        try simp only [Act.put,nrm]
        refine wpAnyIn_ready (rs:=[5]) (by kernel_rfl) (by simp) ?_;refine AllReadyIn.cons rfl (fun K hK=>?_) ?_
        ·go_simp;refine hK _ _ ?_;clear hK K;refine wpAnyIn_done (by kernel_rfl) ?_ _;gi_wp2;exact ⟨(HN.out.frame (by omega) HM.out.2.1 (by have:=HM.out.2.2;simp;omega) tg o (by omega)).1,(HN.out.frame (by omega) HM.out.2.1 (by have:=HM.out.2.2;simp;omega) tg o (by omega)).2,ao',cap',by rw [HNP.out];exact HM.out.1⟩
        exact AllReadyIn.nil
       exact AllReadyIn.nil
      exact AllReadyIn.nil
     exact AllReadyIn.nil
    exact AllReadyIn.nil
   refine AllReadyIn.cons rfl (fun K hK=>?_) ?_
   ·go_simp;refine hK _ _ ?_;clear hK K;refine wpAnyIn_ready (rs:=[0,2]) (by kernel_rfl) (by simp) ?_;refine AllReadyIn.cons rfl (fun K hK=>?_) ?_
    ·go_simp;refine hK _ _ ?_;clear hK K;refine wpAnyIn_ready (rs:=[2]) (by kernel_rfl) (by simp) ?_;refine AllReadyIn.cons rfl (fun K hK=>?_) ?_
     ·go_simp
      gi_wp2_with (refine ⟨trivial,?_⟩;gi_at_call 47;refine (CallsIn.inRound l (callsIn_wide.2 (Zf nm _ hlim))).mono ?_;rintro e w6 ⟨rfl,b6⟩;have b7:Below W.heap.size W w6:=((Below.refl _ W).drew).trans b6;have k6:=(b7.cell (p:=⟨w.heap.size+1,0,none⟩) hBW).trans k1;have hB6:w.heap.size+1<w6.heap.size:=zQe hBW b7.size;obtain ⟨v',w7,hrun,r1,r2,_⟩:=run_append_own (P:=Tryz.prog) (w6.alloc (.cells #[.string nm] 9)) w.heap.size 63 63 9 i0 (.string ⟨#[]⟩) 1 16 Tryz.underlying63 hi hz0 hz1 hz2 rfl (by decide) (.slice ao P.length cap) P.length (zH P) ((own_below HN.out.row b7).alloc _) ⟨w6.heap.size,0,none⟩ 1 1 [.string nm] rfl (one_cell w6 (.string nm) 9) (by intro u hu;simp at hu;subst hu;rfl) (by simp [maxLen];omega) (by omega) (by simp;omega);obtain ⟨ao',cap',rfl⟩:=zJ r1;obtain ⟨m1,m2,m3,m4,m5⟩:=HN.out.push nm (by omega) b7 r2 r1;have HM:Hid _:=And.intro m3 (And.intro m4 m5);clear r1 r2 m3 m4 m5 b6)
      try (refine hK _ _ ?_;clear hK K)
      refine wpAnyIn_ready (rs:=[3]) (by kernel_rfl) (by simp) ?_;refine AllReadyIn.cons rfl (fun K hK=>?_) ?_
      ·go_simp;refine hK _ _ ?_;clear hK K;refine wpAnyIn_ready (rs:=[4]) (by kernel_rfl) (by simp) ?_;refine AllReadyIn.cons rfl (fun K hK=>?_) ?_
       ·refine Yv rfl (.tmp 20) (.tmp 23) 63 rfl (.slice ao P.length cap) (.slice (some ⟨w6.heap.size,0,none⟩) 1 1) (by simp [Act.eval]) (by simp [Act.eval]) hrun ?_;refine hK _ _ ?_;clear hK K
        try simp only [Act.put,nrm]
        refine wpAnyIn_ready (rs:=[5]) (by kernel_rfl) (by simp) ?_;refine AllReadyIn.cons rfl (fun K hK=>?_) ?_
        ·go_simp;refine hK _ _ ?_;clear hK K;refine wpAnyIn_done (by kernel_rfl) ?_ _;gi_wp2;exact ⟨(HN.out.frame (by omega) HM.out.2.1 (by have:=HM.out.2.2;simp;omega) tg o (by omega)).1,(HN.out.frame (by omega) HM.out.2.1 (by have:=HM.out.2.2;simp;omega) tg o (by omega)).2,ao',cap',by rw [HNP.out];exact HM.out.1⟩
        exact AllReadyIn.nil
       exact AllReadyIn.nil
      exact AllReadyIn.nil
     exact AllReadyIn.nil
    refine AllReadyIn.cons rfl (fun K hK=>?_) ?_
    ·go_simp
     gi_wp2_with (refine ⟨trivial,?_⟩;gi_at_call 47;refine (CallsIn.inRound l (callsIn_wide.2 (Zf nm _ hlim))).mono ?_;rintro e w6 ⟨rfl,b6⟩;have b7:Below W.heap.size W w6:=((Below.refl _ W).drew).trans b6;have k6:=(b7.cell (p:=⟨w.heap.size+1,0,none⟩) hBW).trans k1;have hB6:w.heap.size+1<w6.heap.size:=zQe hBW b7.size;obtain ⟨v',w7,hrun,r1,r2,_⟩:=run_append_own (P:=Tryz.prog) (w6.alloc (.cells #[.string nm] 9)) w.heap.size 63 63 9 i0 (.string ⟨#[]⟩) 1 16 Tryz.underlying63 hi hz0 hz1 hz2 rfl (by decide) (.slice ao P.length cap) P.length (zH P) ((own_below HN.out.row b7).alloc _) ⟨w6.heap.size,0,none⟩ 1 1 [.string nm] rfl (one_cell w6 (.string nm) 9) (by intro u hu;simp at hu;subst hu;rfl) (by simp [maxLen];omega) (by omega) (by simp;omega);obtain ⟨ao',cap',rfl⟩:=zJ r1;obtain ⟨m1,m2,m3,m4,m5⟩:=HN.out.push nm (by omega) b7 r2 r1;have HM:Hid _:=And.intro m3 (And.intro m4 m5);clear r1 r2 m3 m4 m5 b6)
     try (refine hK _ _ ?_;clear hK K)
     refine wpAnyIn_ready (rs:=[0,3]) (by kernel_rfl) (by simp) ?_;refine AllReadyIn.cons rfl (fun K hK=>?_) ?_
     ·go_simp;refine hK _ _ ?_;clear hK K;refine wpAnyIn_ready (rs:=[3]) (by kernel_rfl) (by simp) ?_;refine AllReadyIn.cons rfl (fun K hK=>?_) ?_
      ·go_simp;refine hK _ _ ?_;clear hK K;refine wpAnyIn_ready (rs:=[4]) (by kernel_rfl) (by simp) ?_;refine AllReadyIn.cons rfl (fun K hK=>?_) ?_
       ·refine Yv rfl (.tmp 20) (.tmp 23) 63 rfl (.slice ao P.length cap) (.slice (some ⟨w6.heap.size,0,none⟩) 1 1) (by simp [Act.eval]) (by simp [Act.eval]) hrun ?_;refine hK _ _ ?_;clear hK K
        try simp only [Act.put,nrm]
        refine wpAnyIn_ready (rs:=[5]) (by kernel_rfl) (by simp) ?_;refine AllReadyIn.cons rfl (fun K hK=>?_) ?_
        ·go_simp;refine hK _ _ ?_;clear hK K;refine wpAnyIn_done (by kernel_rfl) ?_ _;gi_wp2;exact ⟨(HN.out.frame (by omega) HM.out.2.1 (by have:=HM.out.2.2;simp;omega) tg o (by omega)).1,(HN.out.frame (by omega) HM.out.2.1 (by have:=HM.out.2.2;simp;omega) tg o (by omega)).2,ao',cap',by rw [HNP.out];exact HM.out.1⟩
        exact AllReadyIn.nil
       exact AllReadyIn.nil
      exact AllReadyIn.nil
     refine AllReadyIn.cons rfl (fun K hK=>?_) ?_
     ·go_simp;refine hK _ _ ?_;clear hK K;refine wpAnyIn_ready (rs:=[0]) (by kernel_rfl) (by simp) ?_;refine AllReadyIn.cons rfl (fun K hK=>?_) ?_
      ·go_simp;refine hK _ _ ?_;clear hK K;refine wpAnyIn_ready (rs:=[4]) (by kernel_rfl) (by simp) ?_;refine AllReadyIn.cons rfl (fun K hK=>?_) ?_
       ·refine Yv rfl (.tmp 20) (.tmp 23) 63 rfl (.slice ao P.length cap) (.slice (some ⟨w6.heap.size,0,none⟩) 1 1) (by simp [Act.eval]) (by simp [Act.eval]) hrun ?_;refine hK _ _ ?_;clear hK K
        try simp only [Act.put,nrm]
        refine wpAnyIn_ready (rs:=[5]) (by kernel_rfl) (by simp) ?_;refine AllReadyIn.cons rfl (fun K hK=>?_) ?_
        ·go_simp;refine hK _ _ ?_;clear hK K;refine wpAnyIn_done (by kernel_rfl) ?_ _;gi_wp2;exact ⟨(HN.out.frame (by omega) HM.out.2.1 (by have:=HM.out.2.2;simp;omega) tg o (by omega)).1,(HN.out.frame (by omega) HM.out.2.1 (by have:=HM.out.2.2;simp;omega) tg o (by omega)).2,ao',cap',by rw [HNP.out];exact HM.out.1⟩
        exact AllReadyIn.nil
       exact AllReadyIn.nil
      exact AllReadyIn.nil
     exact AllReadyIn.nil
    exact AllReadyIn.nil
   exact AllReadyIn.nil
  case done =>
   rintro E ys W hE rfl ⟨ao,cap,hN⟩ hK;rw [zIG] at hN;have k1:W.cell? ⟨w.heap.size+1,0,none⟩=some (.slice ao (zP D.files).length cap):=by simp [World.cell?,hN.box]
   have HN:Hid _:=hN;have hP:zP D.files=PN:=hPN;rw [hP] at k1 HN;clear hN hQ h hb0 hb1 hb2 hP hPN;gi_wp2;refine ⟨by simp,.inl ⟨_,_,rfl,run_takeDeferred hK,?_⟩⟩;exact ⟨_,results_tmp rfl _ _ _,ao,cap,rfl,⟨HN.out.below.trans (belowK_b (w:=w) (zQf _) W E _ _ (by omega) hK rfl rfl),ownsRow_putObj HN.out.row _ hK rfl⟩⟩
  case stop =>
   rintro D c pre W _ _ h _;exact h.elim
 ·rw [hd] at c3;simp only [if_true];have hS:=zC5.start w;have HS:Hid _:=hS;clear h hd hS;go_enter Tryz.func41,Tryz.ntmps41;go_wp2_with fail;go_ret;exact ⟨none,0,rfl,HS.out⟩
end Go.Proofs.YtekdenkllipehabGreatDoor
