import Derived.Test.YtekdenkllipehabGreatDoorK15
import Derived.RangeFuncNested
import Derived.RangeFuncBound
import Derived.RangeFuncCalls
import Derived.RangeFuncLeaves
import Derived.RangeFuncWrites
import Derived.RangeFuncBox
set_option maxRecDepth 100000
set_option maxHeartbeats 8000000
namespace Go.Proofs.YtekdenkllipehabGreatDoor
open Go.RowKit
structure Kept (P:Nat→Prop) (tg:Tags) (A:World) (tg1:Tags) (B:World):Prop where
 os:B.os=A.os
 tape:B.tape=A.tape
 output:B.output=A.output
 size:A.heap.size≤B.heap.size
 tags:∀ k,k<A.heap.size→tg1 k=tg k
 block:∀ k,k<A.heap.size→¬P (tg k).1→B.heap[k]?=A.heap[k]?
theorem Kept.refl (P:Nat→Prop) (tg:Tags) (A:World):Kept P tg A tg A:=⟨rfl,rfl,rfl,Nat.le_refl _,fun _ _=>rfl,fun _ _ _=>rfl⟩
theorem Kept.trans {P:Nat→Prop} {tg tg1 tg2:Tags} {A B C:World} (h:Kept P tg A tg1 B) (k:Kept P tg1 B tg2 C):Kept P tg A tg2 C:=
 ⟨k.os.trans h.os,k.tape.trans h.tape,k.output.trans h.output,Nat.le_trans h.size k.size,fun i hi=>(k.tags i (Nat.lt_of_lt_of_le hi h.size)).trans (h.tags i hi),
  fun i hi hn=>(k.block i (Nat.lt_of_lt_of_le hi h.size) (by rw [h.tags i hi];exact hn)).trans (h.block i hi hn)⟩
theorem Kept.wider {P R:Nat→Prop} {tg tg1:Tags} {A B:World} (h:Kept P tg A tg1 B) (hPR:∀ k,P k→R k):Kept R tg A tg1 B:=
 ⟨h.os,h.tape,h.output,h.size,h.tags,fun k hk hn=>h.block k hk (fun hp=>hn (hPR _ hp))⟩
theorem Kept.of_q {P:Nat→Prop} {tg tg1:Tags} {A B:World} (q:Q A B) (ht:∀ k,k<A.heap.size→tg1 k=tg k):Kept P tg A tg1 B:=
 ⟨q.below.os,q.below.tape,q.below.output,q.below.size,ht,fun k hk _=>q.below.block k hk⟩
theorem Kept.of_only {P:Nat→Prop} {o:Nat} {tg tg1:Tags} {A B:World} (h:Only o tg A B) (ht:∀ k,k<A.heap.size→tg1 k=tg k) (ho:P o):Kept P tg A tg1 B:=
 ⟨h.os,h.tape,h.output,h.size,ht,fun k hk hn=>h.block k hk (fun e=>hn (by rw [e];exact ho))⟩
theorem Kept.put {P:Nat→Prop} {tg:Tags} {A:World} {l:Nat} (hl:P (tg l).1) (o':Obj):Kept P tg A tg (A.putObj l o'):=by
 have hg:=grownBy_putObj' A l o'
 exact ⟨hg.os,hg.tape,hg.output,hg.size,fun _ _=>rfl,fun k hk hn=>hg.block k hk (fun e=>hn (by rw [show k=l by simpa using e];exact hl))⟩
theorem Kept.alloc {P:Nat→Prop} {tg tg1:Tags} {A:World} (o:Obj) (ht:∀ k,k<A.heap.size→tg1 k=tg k):Kept P tg A tg1 (A.alloc o):=by
 have hg:=World.grownBy_alloc A o none
 exact ⟨hg.os,hg.tape,hg.output,hg.size,ht,fun k hk _=>hg.block k hk (fun e=>by simp at e)⟩
theorem YieldAt.depth {m:Nat} (m':Nat) {P:Program} {l:Nat} {args:Array Value} {W:World} {R:Ending→World→Prop} (h:YieldAt Fence.wide m P l args W R):YieldAt Fence.wide m' P l args W R:=by
 obtain ⟨fn,tmps,assign,body,hy,hR⟩:=h
 exact ⟨fn,tmps,assign,body,hy,hR.1,fun c cs _=>hR.2 c cs (room_wide _)⟩
theorem YieldAt.within {m:Nat} (l' m':Nat) {P:Program} {l:Nat} {args:Array Value} {W:World} {R:Ending→World→Prop} (h:YieldAt Fence.wide m P l args W R):YieldAt (Fence.wide.inRound l') m' P l args W R:=by
 obtain ⟨fn,tmps,assign,body,hy,hR⟩:=h
 exact ⟨fn,tmps,assign,body,hy,hR.1,fun c cs _=>hR.2 c cs (room_wide _)⟩
def SeqT (F:Fence) (n:Nat) (P:Program) (g:Nat) (lb:Array Value) (N:Nat) (So Bo:Nat→Prop) (Ok:Array Value→Prop) (G:Tags→Nat→Array Value→World→Prop) (tg0:Tags) (w:World):Prop:=
 ∀ (l:Nat) (J Jx:Tags→Nat→World→Prop),
  (∀ tg i A tg1 B,J tg i A→Kept So tg A tg1 B→J tg1 i B)→(∀ tg i A tg1 B,Jx tg i A→Kept So tg A tg1 B→Jx tg1 i B) →
  (∀ tg i vs W,J tg i W→G tg i vs W→YieldAt F (n-1) P l vs W fun e W'=>∃ tg1,Kept Bo tg W tg1 W'∧((e=.returned (.bool true)∧Ok vs∧J tg1 (i+1) W')∨(e=.returned (.bool false)∧Jx tg1 (i+1) W'))) →
  J tg0 0 w →
  CallsIn F n P g (#[.func (.yield l) #[] #[]]++lb) w fun e W'=>(∃ v,e=.returned v)∧∃ tg1,J tg1 N W'∨∃ i,Jx tg1 i W'
theorem SeqT.depth {m:Nat} (m':Nat) {P:Program} {g:Nat} {lb:Array Value} {N:Nat} {So Bo:Nat→Prop} {Ok:Array Value→Prop} {G:Tags→Nat→Array Value→World→Prop} {tg0:Tags} {w:World} (h:SeqT Fence.wide m P g lb N So Bo Ok G tg0 w):SeqT Fence.wide m' P g lb N So Bo Ok G tg0 w:=by
 intro l J Jx hJ hJx hY h0
 refine callsIn_wide.2 (callsIn_wide.1 (h l J Jx hJ hJx (fun tg i vs W a b=>?_) h0))
 obtain ⟨fn,tmps,assign,body,hy,hR⟩:=hY tg i vs W a b
 exact ⟨fn,tmps,assign,body,hy,hR.1,fun c cs _=>hR.2 c cs (room_wide _)⟩
def leftT (Bo:Nat→Prop) (Ok:Prop) (I:Tags→Nat→World→Prop) (Ix:Code→Tags→Nat→World→Prop) (tg:Tags) (i:Nat) (W:World):Exit→Act→World→Prop
 | .normal,_,W'=>∃ tg1,Kept Bo tg W tg1 W'∧Ok∧I tg1 i W'
 | .ret,_,W'=>∃ tg1,Kept Bo tg W tg1 W'∧Ix .ret tg1 i W'
 | .exit id,_,W'=>∃ tg1,Kept Bo tg W tg1 W'∧Ix (.exit id) tg1 i W'
 | .goto t,_,W'=>∃ tg1,Kept Bo tg W tg1 W'∧Ix (.goto t) tg1 i W'
 | .panic _,_,_=>False
 | .outgrown,_,_=>False
section
variable {F:Fence} {n:Nat} {P:Program}
theorem range_TX {g:Operand} {ps:Array Tmp} {assign body:Code} {Q:Exit→Act→World→Prop} {a:Act} {w:World}
  (hro:F.round=none) (h1:1≤n) {gf:Nat} {lb:Array Value} (hg:a.eval g=.func (.func gf) #[] lb) (hFg:F.fn gf) (eg:∀ args w,(callFunc gf args).run P w=.ok (.enter gf args) w)
  (N lo:Nat) (So Bo:Nat→Prop) (Ok:Array Value→Prop) (G:Tags→Nat→Array Value→World→Prop) (tg0:Tags) (hls:¬So lo) (hBl:¬Bo lo)
  (hseq:∀ (W1:World) (tg1:Tags),Below w.heap.size w W1→W1.heap.size=w.heap.size+2→(∀ k,k<w.heap.size→tg1 k=tg0 k)→SeqT F (n-1) P gf lb N So (fun x=>Bo x∨x=lo) Ok G tg1 W1)
  (hps:∀ tg i vs W,G tg i vs W→vs.size=ps.size)
  (I:Tags→Nat→World→Prop) (Ix:Code→Tags→Nat→World→Prop) (hI:∀ tg i A tg1 B,I tg i A→Kept (fun x=>So x∨x=lo) tg A tg1 B→I tg1 i B) (hIx:∀ c tg i A tg1 B,Ix c tg i A→Kept (fun x=>So x∨x=lo) tg A tg1 B→Ix c tg1 i B) (h0:I tg0 0 w)
  (Ax:Tags→Nat→Array Value→Act→World→Prop) (hAx:∀ tg i vs a' A tg1 B,Ax tg i vs a' A→Kept (·=lo) tg A tg1 B→Ax tg1 i vs a' B)
  (hassign:∀ (l i:Nat) (tg:Tags) (vs:Array Value) (W:World) (K:Act→World→Prop),I tg i W→G tg i vs W→(∀ (a':Act) (W':World) (tg1:Tags),Kept Bo tg W tg1 W'→Ax tg1 i vs a' W'→K a' W') →
   assign.wpIn (F.inRound l) (n-1-1) P (Exit.then K (fun _ _ _=>False)) { tmps:=(ps.zip vs).foldl (fun t (p,v)=>t.setIfInBounds p v) a.tmps,defers:=[]} W)
  (hbody:∀ (l i:Nat) (tg:Tags) (vs:Array Value) (a':Act) (W:World),w.heap.size≤l→Ax tg i vs a' W→body.wpIn (F.inRound l) (n-1-1) P (leftT Bo (Ok vs) I Ix tg (i+1) W) a' W)
  (hdone:∀ (D:Nat) (tg:Tags) (W:World),w.heap.size≤D→I tg N W→tg D=(lo,0)→W.heap[D]?=some (.deferred (some []))→Q .normal { a with defers:={ target:=.collected D,args:=#[]}::a.defers } W)
  (hstop:∀ (D:Nat) (c:Code) (tg:Tags) (i:Nat) (W:World),w.heap.size≤D→Ix c tg i W→tg D=(lo,0)→W.heap[D]?=some (.deferred (some []))→c.wpIn F n P Q { a with defers:={ target:=.collected D,args:=#[]}::a.defers } W) :
  (Code.rangeFunc g ps assign body).wpIn F n P Q a w:=by
 refine wpIn_rangeFunc ?_
 intro fn hfn
 rw [hro]
 obtain ⟨rec,hrec⟩:∃ rec:LoopState→Option Code→Loop,rec=fun st pe=>{ state:=st,pending:=pe,fn,tmps:=a.tmps,params:=ps,assign,body,defers:=w.heap.size }:=⟨_,rfl⟩
 obtain ⟨W1,hW1⟩:∃ W1,(w.alloc (.deferred (some []))).alloc (.loop (rec .ready none))=W1:=⟨_,rfl⟩
 obtain ⟨tgA,htgA⟩:∃ tgA,tgA=tg0.more w.heap.size lo 0:=⟨_,rfl⟩
 have hs1:W1.heap.size=w.heap.size+2:=by rw [←hW1];simp
 have hL1:W1.heap[w.heap.size+1]?=some (.loop (rec .ready none)):=by
  have:=World.alloc_heap_new (w.alloc (.deferred (some []))) (.loop (rec .ready none))
  rw [World.size_alloc,hW1] at this
  exact this
 have hK1:W1.heap[w.heap.size]?=some (.deferred (some [])):=by
  rw [←hW1]
  exact (Below.heap_alloc _ _ _ (by simp)).trans (World.alloc_heap_new w _)
 have hold:∀ k,k<w.heap.size→tgA k=tg0 k:=fun k hk=>by rw [htgA];exact Tags.more_old hk
 have hn0:tgA w.heap.size=(lo,0):=by rw [htgA];exact Tags.more_new (Nat.le_refl _)
 have hn1:tgA (w.heap.size+1)=(lo,0):=by rw [htgA];exact Tags.more_new (by omega)
 have hI1:I tgA 0 W1:=by
  rw [←hW1]
  exact hI _ _ _ _ _ h0 ((Kept.alloc _ hold).trans (Kept.alloc _ (fun _ _=>rfl)))
 have hb1:Below w.heap.size w W1:=by
  rw [←hW1]
  exact ((Below.refl _ w).alloc (Nat.le_refl _) _).alloc (by simp) _
 have keep:∀ {A B:World} {tg tg1:Tags} {Pr:Nat→Prop} {k:Nat} {o:Obj},tg k=(lo,0)→¬Pr lo→A.heap[k]?=some o→Kept Pr tg A tg1 B→B.heap[k]?=some o∧tg1 k=(lo,0):=fun hk hp ho ht =>
  ⟨(ht.block _ (Array.getElem?_eq_some_iff.1 ho).1 (by rw [hk];exact hp)).trans ho,(ht.tags _ (Array.getElem?_eq_some_iff.1 ho).1).trans hk⟩
 refine ⟨w.heap.size+1,[{ target:=.collected w.heap.size,args:=#[]}],W1,{ target:=.fn (.func gf) lb,args:=#[.func (.yield (w.heap.size+1)) #[] #[]]},W1,gf,
  #[.func (.yield (w.heap.size+1)) #[] #[]]++lb,W1,?_,?_,?_,?_,fun _=>h1,?_⟩
 ·rw [←hW1,hrec]
  exact run_enterLoop_outer _ _ _ _ _
 ·simp only [resolve,hg]
  simp [go_sem]
 ·intro f' hf'
  simp [Target.leads] at hf'
  subst hf'
  exact hFg
 ·simp [invoke,go_sem,eg]
 ·refine (hseq W1 tgA hb1 hs1 hold (w.heap.size+1)
   (fun tg i W=>I tg i W∧W.heap[w.heap.size+1]?=some (.loop (rec .ready none))∧W.heap[w.heap.size]?=some (.deferred (some []))∧tg w.heap.size=(lo,0)∧tg (w.heap.size+1)=(lo,0))
   (fun tg i W=>∃ c,Ix c tg i W∧W.heap[w.heap.size+1]?=some (.loop (rec .done (some c)))∧W.heap[w.heap.size]?=some (.deferred (some []))∧tg w.heap.size=(lo,0)∧tg (w.heap.size+1)=(lo,0))
   ?stJ ?stX ?round ⟨hI1,hL1,hK1,hn0,hn1⟩).mono ?behind
  case stJ =>
   rintro tg i A tg1 B ⟨hs,hl,hk,t0,t1⟩ ht
   obtain ⟨a1,a2⟩:=keep t1 hls hl ht
   obtain ⟨b1,b2⟩:=keep t0 hls hk ht
   exact ⟨hI tg i A tg1 B hs (ht.wider fun _=>Or.inl),a1,b1,b2,a2⟩
  case stX =>
   rintro tg i A tg1 B ⟨c,hs,hl,hk,t0,t1⟩ ht
   obtain ⟨a1,a2⟩:=keep t1 hls hl ht
   obtain ⟨b1,b2⟩:=keep t0 hls hk ht
   exact ⟨c,hIx c tg i A tg1 B hs (ht.wider fun _=>Or.inl),a1,b1,b2,a2⟩
  case round =>
   rintro tgW i vs W0 ⟨hII,hlW,hkW,t0W,t1W⟩ hGv
   have hy:=run_yield (P:=P) (args:=vs) hlW (by rw [hrec];exact hps tgW i vs W0 hGv)
   rw [hrec] at hy
   refine ⟨fn,_,assign,body,hy,roundIn_of_wpIn hfn (hassign _ i tgW vs W0 _ hII hGv ?_)⟩
   intro a' W tg hk' hax
   obtain ⟨hl,t1⟩:=keep t1W hBl hlW hk'
   obtain ⟨hk,t0⟩:=keep t0W hBl hkW hk'
   have hlt:w.heap.size+1<W.heap.size:=(Array.getElem?_eq_some_iff.1 hl).1
   have hl2:(W.putObj (w.heap.size+1) (.loop { rec .ready none with state:=.busy })).heap[w.heap.size+1]?=some (.loop { rec .ready none with state:=.busy }):=World.putObj_heap_same hlt
   have hk2:(W.putObj (w.heap.size+1) (.loop { rec .ready none with state:=.busy })).heap[w.heap.size]?=some (.deferred (some [])):=(World.putObj_heap_other (by omega)).trans hk
   have hw2:Kept (·=lo) tg W tg (W.putObj (w.heap.size+1) (.loop { rec .ready none with state:=.busy })):=Kept.put (by rw [t1]) _
   refine ⟨_,run_beginRound hl (by rw [hrec]),?_⟩
   refine wpIn_mono (hbody _ i tg vs a' _ (by omega) (hAx _ _ _ _ _ _ _ hax hw2)) ?_
   have fin:∀ (jump:Option Code) (tg1:Tags) (W3:World),Kept Bo tg (W.putObj (w.heap.size+1) (.loop { rec .ready none with state:=.busy })) tg1 W3 →
     (Instr.endRound (w.heap.size+1) jump).run P W3=.ok (.bool jump.isNone) (W3.putObj (w.heap.size+1) (.loop (rec (if jump.isNone then .ready else .done) jump))) ∧
     Kept (fun x=>Bo x∨x=lo) tgW W0 tg1 (W3.putObj (w.heap.size+1) (.loop (rec (if jump.isNone then .ready else .done) jump))) ∧
     Kept (·=lo) tg1 W3 tg1 (W3.putObj (w.heap.size+1) (.loop (rec (if jump.isNone then .ready else .done) jump))) ∧
     (W3.putObj (w.heap.size+1) (.loop (rec (if jump.isNone then .ready else .done) jump))).heap[w.heap.size+1]?=some (.loop (rec (if jump.isNone then .ready else .done) jump)) ∧
     (W3.putObj (w.heap.size+1) (.loop (rec (if jump.isNone then .ready else .done) jump))).heap[w.heap.size]?=some (.deferred (some []))∧tg1 w.heap.size=(lo,0)∧tg1 (w.heap.size+1)=(lo,0):=fun jump tg1 W3 hk3=>by
    obtain ⟨hl3,u1⟩:=keep t1 hBl hl2 hk3
    obtain ⟨hd3,u0⟩:=keep t0 hBl hk2 hk3
    have:=run_endRound (P:=P) jump hl3
    have hp3:Kept (·=lo) tg1 W3 tg1 (W3.putObj (w.heap.size+1) (.loop (rec (if jump.isNone then .ready else .done) jump))):=Kept.put (by rw [u1]) _
    refine ⟨by rw [hrec] at this ⊢;exact this,(((hk'.wider fun _=>Or.inl).trans (hw2.wider fun _=>Or.inr)).trans (hk3.wider fun _=>Or.inl)).trans (hp3.wider fun _=>Or.inr),hp3,World.putObj_heap_same (Array.getElem?_eq_some_iff.1 hl3).1,(World.putObj_heap_other (by omega)).trans hd3,u0,u1⟩
   have leave:∀ (c:Code) (W3:World),(∃ tg1,Kept Bo tg (W.putObj (w.heap.size+1) (.loop { rec .ready none with state:=.busy })) tg1 W3∧Ix c tg1 (i+1) W3) →
     ∃ v w',(Instr.endRound (w.heap.size+1) (some c)).run P W3=.ok v w'∧∃ tg1,Kept (fun x=>Bo x∨x=lo) tgW W0 tg1 w'∧((Ending.returned v=.returned (.bool true)∧Ok vs∧(I tg1 (i+1) w'∧w'.heap[w.heap.size+1]?=some (.loop (rec .ready none))∧w'.heap[w.heap.size]?=some (.deferred (some []))∧tg1 w.heap.size=(lo,0)∧tg1 (w.heap.size+1)=(lo,0)))∨(Ending.returned v=.returned (.bool false)∧∃ c,Ix c tg1 (i+1) w'∧w'.heap[w.heap.size+1]?=some (.loop (rec .done (some c)))∧w'.heap[w.heap.size]?=some (.deferred (some []))∧tg1 w.heap.size=(lo,0)∧tg1 (w.heap.size+1)=(lo,0))):=fun c W3 ⟨tg1,hk3,hx⟩=>by
    obtain ⟨hr,hK,hp,hl4,hk4,u0,u1⟩:=fin (some c) tg1 W3 hk3
    exact ⟨_,_,hr,tg1,hK,.inr ⟨rfl,c,hIx _ _ _ _ _ _ hx (hp.wider fun _=>Or.inr),hl4,hk4,u0,u1⟩⟩
   intro e a3 W3 hp
   cases e with
   | normal =>
    obtain ⟨tg1,hk3,hok,hi3⟩:=hp
    obtain ⟨hr,hK,hp,hl4,hk4,u0,u1⟩:=fin none tg1 W3 hk3
    exact ⟨_,_,hr,tg1,hK,.inl ⟨rfl,hok,hI _ _ _ _ _ hi3 (hp.wider fun _=>Or.inr),hl4,hk4,u0,u1⟩⟩
   | ret=>exact leave .ret W3 hp
   | exit id=>exact leave (.exit id) W3 hp
   | goto t=>exact leave (.goto t) W3 hp
   | panic ch=>exact hp.elim
   | outgrown=>exact hp.elim
  case behind =>
   rintro e W2 ⟨⟨v,rfl⟩,tg1,(⟨hi,hl,hk,t0,t1⟩|⟨i,c,hi,hl,hk,t0,t1⟩)⟩
   ·exact ⟨none,_,by have:=run_endLoop (P:=P) hl (by rw [hrec];simp);rw [hrec] at this;exact this,hdone _ tg1 _ (Nat.le_refl _) (hI _ _ _ _ _ hi ((Kept.put (P:=(·=lo)) (by rw [t1]) _).wider fun _=>Or.inr)) t0 ((World.putObj_heap_other (by omega)).trans hk)⟩
   ·exact ⟨some c,_,by have:=run_endLoop (P:=P) hl (by rw [hrec];simp);rw [hrec] at this;exact this,hstop _ c tg1 i _ (Nat.le_refl _) (hIx _ _ _ _ _ _ hi ((Kept.put (P:=(·=lo)) (by rw [t1]) _).wider fun _=>Or.inr)) t0 ((World.putObj_heap_other (by omega)).trans hk)⟩
theorem range_T {g:Operand} {ps:Array Tmp} {assign body:Code} {Q:Exit→Act→World→Prop} {a:Act} {w:World}
  (hro:F.round=none) (h1:1≤n) {gf:Nat} {lb:Array Value} (hg:a.eval g=.func (.func gf) #[] lb) (hFg:F.fn gf) (eg:∀ args w,(callFunc gf args).run P w=.ok (.enter gf args) w)
  (N lo:Nat) (So Bo:Nat→Prop) (Ok:Array Value→Prop) (G:Tags→Nat→Array Value→World→Prop) (tg0:Tags) (hls:¬So lo) (hBl:¬Bo lo)
  (hseq:∀ (W1:World) (tg1:Tags),Below w.heap.size w W1→W1.heap.size=w.heap.size+2→(∀ k,k<w.heap.size→tg1 k=tg0 k)→SeqT F (n-1) P gf lb N So (fun x=>Bo x∨x=lo) Ok G tg1 W1)
  (hps:∀ tg i vs W,G tg i vs W→vs.size=ps.size) (hG:∀ tg i vs A tg1 B,G tg i vs A→Kept (·=lo) tg A tg1 B→G tg1 i vs B)
  (I:Tags→Nat→World→Prop) (Ix:Code→Tags→Nat→World→Prop) (hI:∀ tg i A tg1 B,I tg i A→Kept (fun x=>So x∨x=lo) tg A tg1 B→I tg1 i B) (hIx:∀ c tg i A tg1 B,Ix c tg i A→Kept (fun x=>So x∨x=lo) tg A tg1 B→Ix c tg1 i B) (h0:I tg0 0 w)
  (a₁:Nat→Array Value→Act)
  (hassign:∀ (l i:Nat) (tg:Tags) (vs:Array Value) (W:World) (K:Act→World→Prop),G tg i vs W→K (a₁ i vs) W →
   assign.wpIn (F.inRound l) (n-1-1) P (Exit.then K (fun _ _ _=>False)) { tmps:=(ps.zip vs).foldl (fun t (p,v)=>t.setIfInBounds p v) a.tmps,defers:=[]} W)
  (hbody:∀ (l i:Nat) (tg:Tags) (vs:Array Value) (W:World),w.heap.size≤l→I tg i W→G tg i vs W→body.wpIn (F.inRound l) (n-1-1) P (leftT Bo (Ok vs) I Ix tg (i+1) W) (a₁ i vs) W)
  (hdone:∀ (D:Nat) (tg:Tags) (W:World),w.heap.size≤D→I tg N W→tg D=(lo,0)→W.heap[D]?=some (.deferred (some []))→Q .normal { a with defers:={ target:=.collected D,args:=#[]}::a.defers } W)
  (hstop:∀ (D:Nat) (c:Code) (tg:Tags) (i:Nat) (W:World),w.heap.size≤D→Ix c tg i W→tg D=(lo,0)→W.heap[D]?=some (.deferred (some []))→c.wpIn F n P Q { a with defers:={ target:=.collected D,args:=#[]}::a.defers } W) :
  (Code.rangeFunc g ps assign body).wpIn F n P Q a w:=by
 refine range_TX hro h1 hg hFg eg N lo So Bo Ok G tg0 hls hBl hseq hps I Ix hI hIx h0 (fun tg i vs a' W=>a'=a₁ i vs∧I tg i W∧G tg i vs W) ?ax ?asg ?bo hdone hstop
 case ax =>
  rintro tg i vs a' A tg1 B ⟨h1,h2,h3⟩ hk
  exact ⟨h1,hI _ _ _ _ _ h2 (hk.wider fun _=>Or.inr),hG _ _ _ _ _ _ h3 hk⟩
 case asg =>
  intro l i tg vs W K hi hg hK
  exact hassign l i tg vs W K hg (hK _ _ tg (Kept.refl _ _ _) ⟨rfl,hi,hg⟩)
 case bo =>
  rintro l i tg vs a' W hl ⟨rfl,hi,hg⟩
  exact hbody l i tg vs W hl hi hg
end
def SeqX (F:Fence) (n:Nat) (P:Program) (g:Nat) (lb:Array Value) (N:Nat) (So Bo Bx:Nat→Prop) (Ok:Array Value→Prop) (G:Tags→Nat→Array Value→World→Prop) (tg0:Tags) (w:World):Prop:=
 ∀ (l:Nat) (J Jx:Tags→Nat→World→Prop),
  (∀ tg i A tg1 B,J tg i A→Kept So tg A tg1 B→J tg1 i B)→(∀ tg i A tg1 B,Jx tg i A→Kept So tg A tg1 B→Jx tg1 i B) →
  (∀ tg i vs W,J tg i W→G tg i vs W→YieldAt F (n-1) P l vs W fun e W'=>∃ tg1,(Kept Bo tg W tg1 W'∧e=.returned (.bool true)∧Ok vs∧J tg1 (i+1) W')∨(Kept Bx tg W tg1 W'∧e=.returned (.bool false)∧Jx tg1 (i+1) W')) →
  J tg0 0 w →
  CallsIn F n P g (#[.func (.yield l) #[] #[]]++lb) w fun e W'=>(∃ v,e=.returned v)∧∃ tg1,J tg1 N W'∨∃ i,Jx tg1 i W'
theorem SeqX.depth {m:Nat} (m':Nat) {P:Program} {g:Nat} {lb:Array Value} {N:Nat} {So Bo Bx:Nat→Prop} {Ok:Array Value→Prop} {G:Tags→Nat→Array Value→World→Prop} {tg0:Tags} {w:World} (h:SeqX Fence.wide m P g lb N So Bo Bx Ok G tg0 w):SeqX Fence.wide m' P g lb N So Bo Bx Ok G tg0 w:=by
 intro l J Jx hJ hJx hY h0
 refine callsIn_wide.2 (callsIn_wide.1 (h l J Jx hJ hJx (fun tg i vs W a b=>?_) h0))
 obtain ⟨fn,tmps,assign,body,hy,hR⟩:=hY tg i vs W a b
 exact ⟨fn,tmps,assign,body,hy,hR.1,fun c cs _=>hR.2 c cs (room_wide _)⟩
def leftX (Bo Bx:Nat→Prop) (Ok:Prop) (I:Tags→Nat→World→Prop) (Ix:Code→Tags→Nat→World→Prop) (tg:Tags) (i:Nat) (W:World):Exit→Act→World→Prop
 | .normal,_,W'=>∃ tg1,Kept Bo tg W tg1 W'∧Ok∧I tg1 i W'
 | .ret,_,W'=>∃ tg1,Kept Bx tg W tg1 W'∧Ix .ret tg1 i W'
 | .exit id,_,W'=>∃ tg1,Kept Bx tg W tg1 W'∧Ix (.exit id) tg1 i W'
 | .goto t,_,W'=>∃ tg1,Kept Bx tg W tg1 W'∧Ix (.goto t) tg1 i W'
 | .panic _,_,_=>False
 | .outgrown,_,_=>False
section
variable {F:Fence} {n:Nat} {P:Program}
theorem range_XX {g:Operand} {ps:Array Tmp} {assign body:Code} {Q:Exit→Act→World→Prop} {a:Act} {w:World}
  (hro:F.round=none) (h1:1≤n) {gf:Nat} {lb:Array Value} (hg:a.eval g=.func (.func gf) #[] lb) (hFg:F.fn gf) (eg:∀ args w,(callFunc gf args).run P w=.ok (.enter gf args) w)
  (N lo:Nat) (So Bo Bx:Nat→Prop) (Ok:Array Value→Prop) (G:Tags→Nat→Array Value→World→Prop) (tg0:Tags) (hls:¬So lo) (hBl:¬Bo lo) (hXl:¬Bx lo) (hBX:∀ x,Bo x→Bx x)
  (hseq:∀ (W1:World) (tg1:Tags),Below w.heap.size w W1→W1.heap.size=w.heap.size+2→(∀ k,k<w.heap.size→tg1 k=tg0 k)→SeqX F (n-1) P gf lb N So (fun x=>Bo x∨x=lo) (fun x=>Bx x∨x=lo) Ok G tg1 W1)
  (hps:∀ tg i vs W,G tg i vs W→vs.size=ps.size)
  (I:Tags→Nat→World→Prop) (Ix:Code→Tags→Nat→World→Prop) (hI:∀ tg i A tg1 B,I tg i A→Kept (fun x=>So x∨x=lo) tg A tg1 B→I tg1 i B) (hIx:∀ c tg i A tg1 B,Ix c tg i A→Kept (fun x=>So x∨x=lo) tg A tg1 B→Ix c tg1 i B) (h0:I tg0 0 w)
  (Ax:Tags→Nat→Array Value→Act→World→Prop) (hAx:∀ tg i vs a' A tg1 B,Ax tg i vs a' A→Kept (·=lo) tg A tg1 B→Ax tg1 i vs a' B)
  (hassign:∀ (l i:Nat) (tg:Tags) (vs:Array Value) (W:World) (K:Act→World→Prop),I tg i W→G tg i vs W→(∀ (a':Act) (W':World) (tg1:Tags),Kept Bo tg W tg1 W'→Ax tg1 i vs a' W'→K a' W') →
   assign.wpIn (F.inRound l) (n-1-1) P (Exit.then K (fun _ _ _=>False)) { tmps:=(ps.zip vs).foldl (fun t (p,v)=>t.setIfInBounds p v) a.tmps,defers:=[]} W)
  (hbody:∀ (l i:Nat) (tg:Tags) (vs:Array Value) (a':Act) (W:World),w.heap.size≤l→Ax tg i vs a' W→body.wpIn (F.inRound l) (n-1-1) P (leftX Bo Bx (Ok vs) I Ix tg (i+1) W) a' W)
  (hdone:∀ (D:Nat) (tg:Tags) (W:World),w.heap.size≤D→I tg N W→tg D=(lo,0)→W.heap[D]?=some (.deferred (some []))→Q .normal { a with defers:={ target:=.collected D,args:=#[]}::a.defers } W)
  (hstop:∀ (D:Nat) (c:Code) (tg:Tags) (i:Nat) (W:World),w.heap.size≤D→Ix c tg i W→tg D=(lo,0)→W.heap[D]?=some (.deferred (some []))→c.wpIn F n P Q { a with defers:={ target:=.collected D,args:=#[]}::a.defers } W) :
  (Code.rangeFunc g ps assign body).wpIn F n P Q a w:=by
 refine wpIn_rangeFunc ?_
 intro fn hfn
 rw [hro]
 obtain ⟨rec,hrec⟩:∃ rec:LoopState→Option Code→Loop,rec=fun st pe=>{ state:=st,pending:=pe,fn,tmps:=a.tmps,params:=ps,assign,body,defers:=w.heap.size }:=⟨_,rfl⟩
 obtain ⟨W1,hW1⟩:∃ W1,(w.alloc (.deferred (some []))).alloc (.loop (rec .ready none))=W1:=⟨_,rfl⟩
 obtain ⟨tgA,htgA⟩:∃ tgA,tgA=tg0.more w.heap.size lo 0:=⟨_,rfl⟩
 have hs1:W1.heap.size=w.heap.size+2:=by rw [←hW1];simp
 have hL1:W1.heap[w.heap.size+1]?=some (.loop (rec .ready none)):=by
  have:=World.alloc_heap_new (w.alloc (.deferred (some []))) (.loop (rec .ready none))
  rw [World.size_alloc,hW1] at this
  exact this
 have hK1:W1.heap[w.heap.size]?=some (.deferred (some [])):=by
  rw [←hW1]
  exact (Below.heap_alloc _ _ _ (by simp)).trans (World.alloc_heap_new w _)
 have hold:∀ k,k<w.heap.size→tgA k=tg0 k:=fun k hk=>by rw [htgA];exact Tags.more_old hk
 have hn0:tgA w.heap.size=(lo,0):=by rw [htgA];exact Tags.more_new (Nat.le_refl _)
 have hn1:tgA (w.heap.size+1)=(lo,0):=by rw [htgA];exact Tags.more_new (by omega)
 have hI1:I tgA 0 W1:=by
  rw [←hW1]
  exact hI _ _ _ _ _ h0 ((Kept.alloc _ hold).trans (Kept.alloc _ (fun _ _=>rfl)))
 have hb1:Below w.heap.size w W1:=by
  rw [←hW1]
  exact ((Below.refl _ w).alloc (Nat.le_refl _) _).alloc (by simp) _
 have keep:∀ {A B:World} {tg tg1:Tags} {Pr:Nat→Prop} {k:Nat} {o:Obj},tg k=(lo,0)→¬Pr lo→A.heap[k]?=some o→Kept Pr tg A tg1 B→B.heap[k]?=some o∧tg1 k=(lo,0):=fun hk hp ho ht =>
  ⟨(ht.block _ (Array.getElem?_eq_some_iff.1 ho).1 (by rw [hk];exact hp)).trans ho,(ht.tags _ (Array.getElem?_eq_some_iff.1 ho).1).trans hk⟩
 refine ⟨w.heap.size+1,[{ target:=.collected w.heap.size,args:=#[]}],W1,{ target:=.fn (.func gf) lb,args:=#[.func (.yield (w.heap.size+1)) #[] #[]]},W1,gf,
  #[.func (.yield (w.heap.size+1)) #[] #[]]++lb,W1,?_,?_,?_,?_,fun _=>h1,?_⟩
 ·rw [←hW1,hrec]
  exact run_enterLoop_outer _ _ _ _ _
 ·simp only [resolve,hg]
  simp [go_sem]
 ·intro f' hf'
  simp [Target.leads] at hf'
  subst hf'
  exact hFg
 ·simp [invoke,go_sem,eg]
 ·refine (hseq W1 tgA hb1 hs1 hold (w.heap.size+1)
   (fun tg i W=>I tg i W∧W.heap[w.heap.size+1]?=some (.loop (rec .ready none))∧W.heap[w.heap.size]?=some (.deferred (some []))∧tg w.heap.size=(lo,0)∧tg (w.heap.size+1)=(lo,0))
   (fun tg i W=>∃ c,Ix c tg i W∧W.heap[w.heap.size+1]?=some (.loop (rec .done (some c)))∧W.heap[w.heap.size]?=some (.deferred (some []))∧tg w.heap.size=(lo,0)∧tg (w.heap.size+1)=(lo,0))
   ?stJ ?stX ?round ⟨hI1,hL1,hK1,hn0,hn1⟩).mono ?behind
  case stJ =>
   rintro tg i A tg1 B ⟨hs,hl,hk,t0,t1⟩ ht
   obtain ⟨a1,a2⟩:=keep t1 hls hl ht
   obtain ⟨b1,b2⟩:=keep t0 hls hk ht
   exact ⟨hI tg i A tg1 B hs (ht.wider fun _=>Or.inl),a1,b1,b2,a2⟩
  case stX =>
   rintro tg i A tg1 B ⟨c,hs,hl,hk,t0,t1⟩ ht
   obtain ⟨a1,a2⟩:=keep t1 hls hl ht
   obtain ⟨b1,b2⟩:=keep t0 hls hk ht
   exact ⟨c,hIx c tg i A tg1 B hs (ht.wider fun _=>Or.inl),a1,b1,b2,a2⟩
  case round =>
   rintro tgW i vs W0 ⟨hII,hlW,hkW,t0W,t1W⟩ hGv
   have hy:=run_yield (P:=P) (args:=vs) hlW (by rw [hrec];exact hps tgW i vs W0 hGv)
   rw [hrec] at hy
   refine ⟨fn,_,assign,body,hy,roundIn_of_wpIn hfn (hassign _ i tgW vs W0 _ hII hGv ?_)⟩
   intro a' W tg hk' hax
   obtain ⟨hl,t1⟩:=keep t1W hBl hlW hk'
   obtain ⟨hk,t0⟩:=keep t0W hBl hkW hk'
   have hlt:w.heap.size+1<W.heap.size:=(Array.getElem?_eq_some_iff.1 hl).1
   have hl2:(W.putObj (w.heap.size+1) (.loop { rec .ready none with state:=.busy })).heap[w.heap.size+1]?=some (.loop { rec .ready none with state:=.busy }):=World.putObj_heap_same hlt
   have hk2:(W.putObj (w.heap.size+1) (.loop { rec .ready none with state:=.busy })).heap[w.heap.size]?=some (.deferred (some [])):=(World.putObj_heap_other (by omega)).trans hk
   have hw2:Kept (·=lo) tg W tg (W.putObj (w.heap.size+1) (.loop { rec .ready none with state:=.busy })):=Kept.put (by rw [t1]) _
   refine ⟨_,run_beginRound hl (by rw [hrec]),?_⟩
   refine wpIn_mono (hbody _ i tg vs a' _ (by omega) (hAx _ _ _ _ _ _ _ hax hw2)) ?_
   have fin:∀ (Bz:Nat→Prop) (hBz:¬Bz lo) (hBBz:∀ x,Bo x→Bz x) (jump:Option Code) (tg1:Tags) (W3:World),Kept Bz tg (W.putObj (w.heap.size+1) (.loop { rec .ready none with state:=.busy })) tg1 W3 →
     (Instr.endRound (w.heap.size+1) jump).run P W3=.ok (.bool jump.isNone) (W3.putObj (w.heap.size+1) (.loop (rec (if jump.isNone then .ready else .done) jump))) ∧
     Kept (fun x=>Bz x∨x=lo) tgW W0 tg1 (W3.putObj (w.heap.size+1) (.loop (rec (if jump.isNone then .ready else .done) jump))) ∧
     Kept (·=lo) tg1 W3 tg1 (W3.putObj (w.heap.size+1) (.loop (rec (if jump.isNone then .ready else .done) jump))) ∧
     (W3.putObj (w.heap.size+1) (.loop (rec (if jump.isNone then .ready else .done) jump))).heap[w.heap.size+1]?=some (.loop (rec (if jump.isNone then .ready else .done) jump)) ∧
     (W3.putObj (w.heap.size+1) (.loop (rec (if jump.isNone then .ready else .done) jump))).heap[w.heap.size]?=some (.deferred (some []))∧tg1 w.heap.size=(lo,0)∧tg1 (w.heap.size+1)=(lo,0):=fun Bz hBz hBBz jump tg1 W3 hk3=>by
    obtain ⟨hl3,u1⟩:=keep t1 hBz hl2 hk3
    obtain ⟨hd3,u0⟩:=keep t0 hBz hk2 hk3
    have:=run_endRound (P:=P) jump hl3
    have hp3:Kept (·=lo) tg1 W3 tg1 (W3.putObj (w.heap.size+1) (.loop (rec (if jump.isNone then .ready else .done) jump))):=Kept.put (by rw [u1]) _
    refine ⟨by rw [hrec] at this ⊢;exact this,(((hk'.wider fun x hx=>Or.inl (hBBz x hx)).trans (hw2.wider fun _=>Or.inr)).trans (hk3.wider fun _=>Or.inl)).trans (hp3.wider fun _=>Or.inr),hp3,World.putObj_heap_same (Array.getElem?_eq_some_iff.1 hl3).1,(World.putObj_heap_other (by omega)).trans hd3,u0,u1⟩
   have leave:∀ (c:Code) (W3:World),(∃ tg1,Kept Bx tg (W.putObj (w.heap.size+1) (.loop { rec .ready none with state:=.busy })) tg1 W3∧Ix c tg1 (i+1) W3) →
     ∃ v w',(Instr.endRound (w.heap.size+1) (some c)).run P W3=.ok v w'∧∃ tg1,(Kept (fun x=>Bo x∨x=lo) tgW W0 tg1 w'∧Ending.returned v=.returned (.bool true)∧Ok vs∧(I tg1 (i+1) w'∧w'.heap[w.heap.size+1]?=some (.loop (rec .ready none))∧w'.heap[w.heap.size]?=some (.deferred (some []))∧tg1 w.heap.size=(lo,0)∧tg1 (w.heap.size+1)=(lo,0)))∨(Kept (fun x=>Bx x∨x=lo) tgW W0 tg1 w'∧Ending.returned v=.returned (.bool false)∧∃ c,Ix c tg1 (i+1) w'∧w'.heap[w.heap.size+1]?=some (.loop (rec .done (some c)))∧w'.heap[w.heap.size]?=some (.deferred (some []))∧tg1 w.heap.size=(lo,0)∧tg1 (w.heap.size+1)=(lo,0)):=fun c W3 ⟨tg1,hk3,hx⟩=>by
    obtain ⟨hr,hK,hp,hl4,hk4,u0,u1⟩:=fin Bx hXl hBX (some c) tg1 W3 hk3
    exact ⟨_,_,hr,tg1,.inr ⟨hK,rfl,c,hIx _ _ _ _ _ _ hx (hp.wider fun _=>Or.inr),hl4,hk4,u0,u1⟩⟩
   intro e a3 W3 hp
   cases e with
   | normal =>
    obtain ⟨tg1,hk3,hok,hi3⟩:=hp
    obtain ⟨hr,hK,hp,hl4,hk4,u0,u1⟩:=fin Bo hBl (fun _ h=>h) none tg1 W3 hk3
    exact ⟨_,_,hr,tg1,.inl ⟨hK,rfl,hok,hI _ _ _ _ _ hi3 (hp.wider fun _=>Or.inr),hl4,hk4,u0,u1⟩⟩
   | ret=>exact leave .ret W3 hp
   | exit id=>exact leave (.exit id) W3 hp
   | goto t=>exact leave (.goto t) W3 hp
   | panic ch=>exact hp.elim
   | outgrown=>exact hp.elim
  case behind =>
   rintro e W2 ⟨⟨v,rfl⟩,tg1,(⟨hi,hl,hk,t0,t1⟩|⟨i,c,hi,hl,hk,t0,t1⟩)⟩
   ·exact ⟨none,_,by have:=run_endLoop (P:=P) hl (by rw [hrec];simp);rw [hrec] at this;exact this,hdone _ tg1 _ (Nat.le_refl _) (hI _ _ _ _ _ hi ((Kept.put (P:=(·=lo)) (by rw [t1]) _).wider fun _=>Or.inr)) t0 ((World.putObj_heap_other (by omega)).trans hk)⟩
   ·exact ⟨some c,_,by have:=run_endLoop (P:=P) hl (by rw [hrec];simp);rw [hrec] at this;exact this,hstop _ c tg1 i _ (Nat.le_refl _) (hIx _ _ _ _ _ _ hi ((Kept.put (P:=(·=lo)) (by rw [t1]) _).wider fun _=>Or.inr)) t0 ((World.putObj_heap_other (by omega)).trans hk)⟩
theorem range_X {g:Operand} {ps:Array Tmp} {assign body:Code} {Q:Exit→Act→World→Prop} {a:Act} {w:World}
  (hro:F.round=none) (h1:1≤n) {gf:Nat} {lb:Array Value} (hg:a.eval g=.func (.func gf) #[] lb) (hFg:F.fn gf) (eg:∀ args w,(callFunc gf args).run P w=.ok (.enter gf args) w)
  (N lo:Nat) (So Bo Bx:Nat→Prop) (Ok:Array Value→Prop) (G:Tags→Nat→Array Value→World→Prop) (tg0:Tags) (hls:¬So lo) (hBl:¬Bo lo) (hXl:¬Bx lo) (hBX:∀ x,Bo x→Bx x)
  (hseq:∀ (W1:World) (tg1:Tags),Below w.heap.size w W1→W1.heap.size=w.heap.size+2→(∀ k,k<w.heap.size→tg1 k=tg0 k)→SeqX F (n-1) P gf lb N So (fun x=>Bo x∨x=lo) (fun x=>Bx x∨x=lo) Ok G tg1 W1)
  (hps:∀ tg i vs W,G tg i vs W→vs.size=ps.size) (hG:∀ tg i vs A tg1 B,G tg i vs A→Kept (·=lo) tg A tg1 B→G tg1 i vs B)
  (I:Tags→Nat→World→Prop) (Ix:Code→Tags→Nat→World→Prop) (hI:∀ tg i A tg1 B,I tg i A→Kept (fun x=>So x∨x=lo) tg A tg1 B→I tg1 i B) (hIx:∀ c tg i A tg1 B,Ix c tg i A→Kept (fun x=>So x∨x=lo) tg A tg1 B→Ix c tg1 i B) (h0:I tg0 0 w)
  (a₁:Nat→Array Value→Act)
  (hassign:∀ (l i:Nat) (tg:Tags) (vs:Array Value) (W:World) (K:Act→World→Prop),G tg i vs W→K (a₁ i vs) W →
   assign.wpIn (F.inRound l) (n-1-1) P (Exit.then K (fun _ _ _=>False)) { tmps:=(ps.zip vs).foldl (fun t (p,v)=>t.setIfInBounds p v) a.tmps,defers:=[]} W)
  (hbody:∀ (l i:Nat) (tg:Tags) (vs:Array Value) (W:World),w.heap.size≤l→I tg i W→G tg i vs W→body.wpIn (F.inRound l) (n-1-1) P (leftX Bo Bx (Ok vs) I Ix tg (i+1) W) (a₁ i vs) W)
  (hdone:∀ (D:Nat) (tg:Tags) (W:World),w.heap.size≤D→I tg N W→tg D=(lo,0)→W.heap[D]?=some (.deferred (some []))→Q .normal { a with defers:={ target:=.collected D,args:=#[]}::a.defers } W)
  (hstop:∀ (D:Nat) (c:Code) (tg:Tags) (i:Nat) (W:World),w.heap.size≤D→Ix c tg i W→tg D=(lo,0)→W.heap[D]?=some (.deferred (some []))→c.wpIn F n P Q { a with defers:={ target:=.collected D,args:=#[]}::a.defers } W) :
  (Code.rangeFunc g ps assign body).wpIn F n P Q a w:=by
 refine range_XX hro h1 hg hFg eg N lo So Bo Bx Ok G tg0 hls hBl hXl hBX hseq hps I Ix hI hIx h0 (fun tg i vs a' W=>a'=a₁ i vs∧I tg i W∧G tg i vs W) ?ax ?asg ?bo hdone hstop
 case ax =>
  rintro tg i vs a' A tg1 B ⟨h1,h2,h3⟩ hk
  exact ⟨h1,hI _ _ _ _ _ h2 (hk.wider fun _=>Or.inr),hG _ _ _ _ _ _ h3 hk⟩
 case asg =>
  intro l i tg vs W K hi hg hK
  exact hassign l i tg vs W K hg (hK _ _ tg (Kept.refl _ _ _) ⟨rfl,hi,hg⟩)
 case bo =>
  rintro l i tg vs a' W hl ⟨rfl,hi,hg⟩
  exact hbody l i tg vs W hl hi hg
end
end Go.Proofs.YtekdenkllipehabGreatDoor
