import Derived.Test.YtekdenkllipehabGreatDoorK02
import Derived.Test.YtekdenkllipehabGreatDoorK27
import Derived.Test.YtekdenkllipehabGreatDoorK36
import Derived.Test.YtekdenkllipehabGreatDoorK40
set_option maxRecDepth 100000
set_option maxHeartbeats 8000000
namespace Go.Proofs.YtekdenkllipehabGreatDoor
open Go.RowKit Go.Shelf
attribute [local go_sem] Oper.semAt_some
def BackG (st:List Int) (_:Tags) (i:Nat) (vs:Array Value) (_:World):Prop:=∃ x,i<st.length∧st[st.length-1-i]?=some x∧vs=#[.int .i64 ((st.length-1-i:Nat):Int),.int .i64 x]
theorem sback1 (n:Nat) (hn:1≤n) (st:List Int) (hl:st.length≤1048576) (Bs g cap:Nat) (So Bo:Nat→Prop) (tg0:Tags) (w:World)
  (b1:w.cell? ⟨Bs,0,none⟩=some (.slice (some ⟨g,0,none⟩) st.length cap)) (hc:∀ i x,st[i]?=some x→w.cell? ⟨g,i,none⟩=some (.int .i64 x)) (hB:Bs<w.heap.size∧¬Bo (tg0 Bs).1) (hg:g<w.heap.size∧¬Bo (tg0 g).1) :
  SeqT Fence.wide n Tryz.prog 178 #[.pointer (some ⟨Bs,0,none⟩)] st.length So Bo (fun _=>True) (BackG st) tg0 w:=by
 intro lp J Jx hJ hJx hY h0
 refine callsIn_of_wp Tryz.func178 rfl trivial ?_ rfl
 simp only [Tryz.ntmps178,List.size_toArray,List.length_cons,List.length_nil,Nat.reduceAdd,Nat.reduceSub,Array.replicate_succ,Array.replicate_zero,List.push_toArray,List.append_toArray,List.nil_append,List.cons_append]
 have hmx:Tryz.prog.follows .mixedOrders=true:=by kernel_rfl
 have hw1:IntKind.i64.wrap ((st.length:Int)-1)=(st.length:Int)-1:=by rw [IntKind.wrap_i64];omega
 gi_wp2
 gi_loopw [3] (fun iv wr=>∃ (tg:Tags) (k:Nat),k≤st.length∧iv=.int .i64 ((st.length:Int)-1-k)∧J tg k wr∧(∀ b,b<w.heap.size→tg b=tg0 b)∧w.heap.size≤wr.heap.size∧wr.heap[Bs]?=w.heap[Bs]?∧wr.heap[g]?=w.heap[g]?)
  (fun iv _=>(intOf iv+1).toNat)
 case atStart=>exact ⟨tg0,0,Nat.zero_le _,by simp,h0,fun _ _=>rfl,Nat.le_refl _,rfl,rfl⟩
 case round =>
  obtain ⟨tg,k,hk,rfl,hJk,htg,hsz,e1,e2⟩:=hrel
  by_cases hlt:k<st.length
  ·have hp:(0:Int)≤(st.length:Int)-1-k:=by omega
   obtain ⟨x,hx⟩:∃ x,st[st.length-1-k]?=some x:=⟨_,List.getElem?_eq_getElem (by omega)⟩
   have x1:wr.cell? ⟨Bs,0,none⟩=some (.slice (some ⟨g,0,none⟩) st.length cap):=(World.cell?_of_block (a:=⟨Bs,0,none⟩) e1).trans b1
   have x2:wr.cell? ⟨g,st.length-1-k,none⟩=some (.int .i64 x):=(World.cell?_of_block (a:=⟨g,st.length-1-k,none⟩) e2).trans (hc _ x hx)
   have hcast:(st.length:Int)-1-(k:Int)=((st.length-1-k:Nat):Int):=by omega
   rw [hcast] at hp ⊢
   obtain ⟨m,hm⟩:∃ m,m=st.length-1-k:=⟨_,rfl⟩
   rw [←hm] at x2 hp hx ⊢
   have hlt2:(m:Int)<(st.length:Int):=by omega
   have hlt3:m<st.length:=by omega
   have hwm:IntKind.i64.wrap ((m:Int)-1)=(m:Int)-1:=by rw [IntKind.wrap_i64];omega
   obtain ⟨fn,tmps,assign,body,hy,hR⟩:=hY tg k #[.int .i64 (m:Int),.int .i64 x] wr hJk ⟨x,hlt,by rw [←hm];exact hx,by rw [←hm]⟩
   have hmI:(m:Int)-1=(st.length:Int)-1-((k+1:Nat):Int):=by omega
   have HH:Hid _:=And.intro hmI (And.intro htg (And.intro hsz (And.intro e1 e2)))
   clear hcast hm hmI htg hsz e1 e2 hJk hx
   gi_wp2
   refine hR.mono ?_
   rintro e W3 ⟨tg1,hk1,⟨rfl,_,hJ3⟩|⟨rfl,hJx3⟩⟩
   ·gi_wp2
    go_roundw
    case rel =>
     obtain ⟨hmI,htg,hsz,e1,e2⟩:=HH.out
     exact ⟨tg1,k+1,hlt,by rw [←hmI],hJ3,fun b hb=>(hk1.tags b (Nat.lt_of_lt_of_le hb hsz)).trans (htg b hb),Nat.le_trans hsz hk1.size,(hk1.block Bs (Nat.lt_of_lt_of_le hB.1 hsz) (by rw [htg Bs hB.1];exact hB.2)).trans e1,(hk1.block g (Nat.lt_of_lt_of_le hg.1 hsz) (by rw [htg g hg.1];exact hg.2)).trans e2⟩
    case measure=>simp only [intOf];omega
   ·gi_wp2
    refine bodyPost_ret (results_none rfl _ _ _) rfl ?_
    exact ⟨⟨_,rfl⟩,tg1,.inr ⟨_,hJx3⟩⟩
  ·obtain rfl:k=st.length:=by omega
   have hp:¬(0:Int)≤(st.length:Int)-1-st.length:=by omega
   gi_wp2
   go_end0
   exact ⟨⟨_,rfl⟩,tg,Or.inl hJk⟩
theorem sback_in (n:Nat) (ao:Option Addr) (len cap:Nat) (w:World) :
  CallsIn Fence.wide n Tryz.prog 153 #[.slice ao len cap] w fun e w'=>e=.returned (.func (.func 178) #[] #[.pointer (some ⟨w.heap.size,0,none⟩)])∧w'=w.alloc (.cells #[.slice ao len cap] 51):=by
 refine callsIn_of_wp Tryz.func153 rfl trivial ?_ rfl
 simp only [Tryz.ntmps153,List.size_toArray,List.length_cons,List.length_nil,Nat.reduceAdd,Nat.reduceSub,Array.replicate_succ,Array.replicate_zero,List.push_toArray,List.append_toArray,List.nil_append,List.cons_append]
 gi_wp2
 go_ret
 exact ⟨rfl,rfl⟩
theorem said_bool {e:Ending} {A B C:Prop} (h:(e=.returned (.bool true)∧A∧B)∨(e=.returned (.bool false)∧C)):∃ b:Bool,e=.returned (.bool b)∧((b=true∧A∧B)∨(b=false∧C)):=
 h.elim (fun ⟨a,b⟩=>⟨true,a,Or.inl ⟨rfl,b⟩⟩) (fun ⟨a,b⟩=>⟨false,a,Or.inr ⟨rfl,b⟩⟩)
def MBackG (rs:List Rec) (_:Tags) (i:Nat) (vs:Array Value) (_:World):Prop:=∃ r,i<rs.length∧rs[rs.length-1-i]?=some r∧vs=#[.int .i64 r.stamp,r.val]
theorem mback1 (n:Nat) (hn:6≤n) (rs:List Rec) (hl:rs.length≤1048576) (Bm p g cap gv capv so lo:Nat) (So Bo:Nat→Prop) (hso:So so) (hlo:So lo) (hne:so≠lo) (hSB:∀ x,So x→¬Bo x) (tg0:Tags) (w:World)
  (b1:w.cell? ⟨Bm,0,none⟩=some (.pointer (some ⟨p,0,none⟩))) (c1:w.cell? ⟨p,0,none⟩=some (.slice (some ⟨g,0,none⟩) rs.length cap)) (c2:w.cell? ⟨p,1,none⟩=some (.slice (some ⟨gv,0,none⟩) rs.length capv))
  (hc:∀ i x,(rs.map (·.stamp))[i]?=some x→w.cell? ⟨g,i,none⟩=some (.int .i64 x)) (hv:RecsAt w gv 0 rs)
  (hB:Bm<w.heap.size∧¬(Bo (tg0 Bm).1∨(tg0 Bm).1=lo)) (hp:p<w.heap.size∧¬(Bo (tg0 p).1∨(tg0 p).1=lo)) (hg:g<w.heap.size∧¬(Bo (tg0 g).1∨(tg0 g).1=lo)) (hgv:gv<w.heap.size∧¬(Bo (tg0 gv).1∨(tg0 gv).1=lo)) :
  SeqT Fence.wide n Tryz.prog 152 #[.pointer (some ⟨Bm,0,none⟩)] rs.length So Bo (fun _=>True) (MBackG rs) tg0 w:=by
 intro lp J Jx hJ hJx hY h0
 refine callsIn_of_wp_marks Tryz.func152 rfl trivial ?_ rfl
 simp only [Tryz.ntmps152,List.size_toArray,List.length_cons,List.length_nil,Nat.reduceAdd,Nat.reduceSub,Array.replicate_succ,Array.replicate_zero,List.push_toArray,List.append_toArray,List.nil_append,List.cons_append]
 have hmx:Tryz.prog.follows .mixedOrders=true:=by kernel_rfl
 gi_wp2
 refine ⟨trivial,fun _=>by omega,(sback_in _ _ _ _ _).mono ?_⟩
 rintro e w' ⟨rfl,rfl⟩
 gi_wp2
 obtain ⟨wl,hwl⟩:∃ wl,wl=(w.alloc (.cells #[.func (.yield lp) #[] #[]] 208)).alloc (.cells #[.slice (some ⟨g,0,none⟩) rs.length cap] 51):=⟨_,rfl⟩
 obtain ⟨tgl,htgl⟩:∃ tgl,tgl=tg0.more w.heap.size so 0:=⟨_,rfl⟩
 have hql:Q w wl:=by rw [hwl];exact ((Q.refl w).alloc _ _).alloc _ _
 have hsl:wl.heap.size=w.heap.size+2:=by rw [hwl];simp
 have hold:∀ k,k<w.heap.size→tgl k=tg0 k:=fun k hk=>by rw [htgl];exact Tags.more_old hk
 have hnew:∀ k,w.heap.size≤k→tgl k=(so,0):=fun k hk=>by rw [htgl];exact Tags.more_new hk
 have y0:wl.cell? ⟨w.heap.size,0,none⟩=some (.func (.yield lp) #[] #[]):=by rw [hwl];simp
 have y1:wl.cell? ⟨w.heap.size+1,0,none⟩=some (.slice (some ⟨g,0,none⟩) rs.length cap):=by rw [hwl];simp
 have hso2:¬(Bo so∨so=lo):=fun e=>e.elim (hSB so hso) hne
 have hno:∀ k,k<w.heap.size→¬(Bo (tg0 k).1∨(tg0 k).1=lo)→¬(Bo (tgl k).1∨(tgl k).1=lo):=fun k hk hn=>by rw [hold k hk];exact hn
 have hJl:J tgl 0 wl:=hJ _ _ _ _ _ h0 (Kept.of_q hql hold)
 rw [←hwl]
 clear hwl htgl
 refine range_T rfl (by omega) (gf:=178) (lb:=#[.pointer (some ⟨w.heap.size+1,0,none⟩)]) (by simp [Act.eval]) trivial (enters_of Tryz.func178 rfl rfl) rs.length lo (fun _=>False) Bo (fun _=>True) (BackG (rs.map (·.stamp))) tgl (fun h=>h) (hSB lo hlo) ?seq ?ps ?hG
  (fun tg i W=>J tg i W∧Kept (fun x=>Bo x∨x=lo) tgl wl tg W) (fun c tg i W=>c=.ret∧Jx tg i W) ?hI ?hIx ⟨hJl,Kept.refl _ _ _⟩ (fun _ vs=>{ tmps:=#[.func (.yield lp) #[] #[],.pointer (some ⟨Bm,0,none⟩),.pointer (some ⟨w.heap.size,0,none⟩),vs.getD 0 undef,vs.getD 1 undef,.pointer (some ⟨p,0,none⟩),.pointer (some ⟨p,0,none⟩),.pointer (some ⟨p,0,none⟩),.slice (some ⟨g,0,none⟩) rs.length cap,.func (.func 178) #[] #[.pointer (some ⟨w.heap.size+1,0,none⟩)],vs.getD 0 undef,vs.getD 1 undef,undef,undef,undef,undef,undef,undef,undef,undef,undef,undef,undef],defers:=[]}) ?assign ?body ?done ?stop
 case seq =>
  intro W1 tg1 hb1 hs1 ht1
  have:=SeqT.depth (n-1) (sback1 n (by omega) (rs.map (·.stamp)) (by simpa using hl) (w.heap.size+1) g cap (fun _=>False) (fun x=>Bo x∨x=lo) tg1 W1 ((hb1.cell (p:=⟨w.heap.size+1,0,none⟩) (show w.heap.size+1<wl.heap.size by omega)).trans (by simpa using y1))
   (fun i x hx=>(hb1.cell (p:=⟨g,i,none⟩) (show g<wl.heap.size by omega)).trans ((hql.below.cell (p:=⟨g,i,none⟩) hg.1).trans (hc i x hx))) ⟨by omega,by rw [ht1 _ (by omega),hnew _ (by omega)];exact hso2⟩ ⟨by omega,by rw [ht1 _ (by omega)];exact hno g hg.1 hg.2⟩)
  rw [List.length_map] at this
  exact this
 case ps=>rintro tg i vs W ⟨x,_,_,rfl⟩;rfl
 case hG=>rintro tg i vs A tg1 B h _;exact h
 case hI =>
  rintro tg i A tg1 B ⟨hj,hk⟩ ht
  exact ⟨hJ _ _ _ _ _ hj (ht.wider fun x hx=>hx.elim False.elim (fun e=>e▸hlo)),hk.trans (ht.wider fun x hx=>hx.elim False.elim Or.inr)⟩
 case hIx =>
  rintro c tg i A tg1 B ⟨hc,hj⟩ ht
  exact ⟨hc,hJx _ _ _ _ _ hj (ht.wider fun x hx=>hx.elim False.elim (fun e=>e▸hlo))⟩
 case assign =>
  rintro l i tg vs W K ⟨x,hi,hx,rfl⟩ hK
  obtain ⟨m,hm⟩:∃ m,((rs.map (·.stamp)).length-1-i:Nat)=m:=⟨_,rfl⟩
  rw [hm] at hK ⊢
  simp only [Array.getD_eq_getD_getElem?,List.getElem?_toArray,List.getElem?_cons_zero,List.getElem?_cons_succ,Option.getD_some] at hK
  gi_wp2
  exact hK
 case body =>
  rintro l i tg vs W hl2 ⟨hj,hk⟩ ⟨x,hi,hx,rfl⟩
  rw [List.length_map] at hi hx ⊢
  obtain ⟨m,hm⟩:∃ m,rs.length-1-i=m:=⟨_,rfl⟩
  have hml:m<rs.length:=by omega
  obtain ⟨r,hr⟩:∃ r,rs[m]?=some r:=⟨_,List.getElem?_eq_getElem hml⟩
  have hxr:x=r.stamp:=by
   rw [hm,List.getElem?_map,hr] at hx
   simpa using hx.symm
  subst hxr
  have kb:∀ k j,k<w.heap.size→¬(Bo (tg0 k).1∨(tg0 k).1=lo)→W.cell? ⟨k,j,none⟩=w.cell? ⟨k,j,none⟩:=fun k j h1 h2=>(World.cell?_of_block (a:=⟨k,j,none⟩) (hk.block k (by omega) (hno k h1 h2))).trans (hql.below.cell (p:=⟨k,j,none⟩) h1)
  have z0:W.cell? ⟨w.heap.size,0,none⟩=some (.func (.yield lp) #[] #[]):=(World.cell?_of_block (a:=⟨w.heap.size,0,none⟩) (hk.block w.heap.size (by omega) (by rw [hnew _ (Nat.le_refl _)];exact hso2))).trans y0
  have z1:=(kb Bm 0 hB.1 hB.2).trans b1
  have z2:=(kb p 1 hp.1 hp.2).trans c2
  obtain ⟨r0,r1,r2,r3⟩:=hv m r hr
  have z3:=(kb gv _ hgv.1 hgv.2).trans r0
  have z4:=(kb gv _ hgv.1 hgv.2).trans r1
  have z5:=(kb gv _ hgv.1 hgv.2).trans r2
  have z6:=(kb gv _ hgv.1 hgv.2).trans r3
  rw [Nat.zero_add] at z3 z4 z5 z6
  have g1:(0:Int)≤(m:Int):=by omega
  have g2:(m:Int)<(rs.length:Int):=by omega
  obtain ⟨fn,tmps,assign,body,hy,hR⟩:=YieldAt.depth (n-1-1-1) (hY tg i #[.int .i64 r.stamp,r.val] W.drew (hJ _ _ _ _ _ hj (Kept.of_q ((Q.refl W).drew) (fun _ _=>rfl))) ⟨r,by omega,by rw [hm];exact hr,rfl⟩)
  unfold Rec.val at hy
  have HK:Hid _:=hk
  rw [hm]
  clear hj hx hm hv hc y0 y1 kb hJl hk
  simp only [Array.getD_eq_getD_getElem?,List.getElem?_toArray,List.getElem?_cons_zero,List.getElem?_cons_succ,Option.getD_some]
  gi_wp2
  refine region_round hmx (by kernel_rfl) 11 rfl ?_
  refine wpAnyIn_take rfl (i:=1) (v:=.int .i64 r.stamp) rfl (by kernel_rfl) (by kernel_rfl) (by kernel_rfl) (fun _ _ _ h=>h) (yields_plain rfl (fun _=>rfl) (fun _=>rfl)) ?_
  simp only [Act.put,nrm]
  refine wpAnyIn_take rfl (i:=6) (v:=.int .i64 (m:Int)) rfl (by kernel_rfl) (by kernel_rfl) (by kernel_rfl) (fun _ _ _ h=>h) (yields_plain rfl (fun _=>rfl) (fun _=>rfl)) ?_
  simp only [Act.put,nrm]
  refine wpAnyIn_ready (rs:=[0,2]) (by kernel_rfl) (by simp) ?_
  refine AllReadyIn.cons rfl (fun K hK=>?_) ?_
  ·go_simp
   refine hK _ _ ?_
   clear hK K
   refine wpAnyIn_ready (rs:=[2]) (by kernel_rfl) (by simp) ?_
   refine AllReadyIn.cons rfl (fun K hK=>?_) ?_
   ·go_simp
    refine hK _ _ ?_
    clear hK K
    refine wpAnyIn_take rfl (i:=3) (v:=.pointer (some ⟨p,0,none⟩)) rfl (by kernel_rfl) (by kernel_rfl) (by kernel_rfl) (fun _ _ _ h=>h) (yields_plain rfl (fun _=>rfl) (fun _=>rfl)) ?_
    simp only [Act.put,nrm]
    refine wpAnyIn_take rfl (i:=4) (v:=.pointer (some ⟨p,1,none⟩)) rfl (by kernel_rfl) (by kernel_rfl) (by kernel_rfl) (fun _ _ _ h=>h) (yields_plain rfl (fun _=>rfl) (fun _=>rfl)) ?_
    simp only [Act.put,nrm]
    refine wpAnyIn_ready (rs:=[5]) (by kernel_rfl) (by simp) ?_
    refine AllReadyIn.cons rfl (fun K hK=>?_) ?_
    ·go_simp
     refine hK _ _ ?_
     clear hK K
     refine wpAnyIn_ready (rs:=[7]) (by kernel_rfl) (by simp) ?_
     refine AllReadyIn.cons rfl (fun K hK=>?_) ?_
     ·go_simp
      refine hK _ _ ?_
      clear hK K
      refine wpAnyIn_ready (rs:=[8]) (by kernel_rfl) (by simp) ?_
      refine AllReadyIn.cons rfl (fun K hK=>?_) ?_
      ·go_simp
       refine hK _ _ ?_
       clear hK K
       refine wpAnyIn_ready (rs:=[9]) (by kernel_rfl) (by simp) ?_
       refine AllReadyIn.cons rfl (fun K hK=>?_) AllReadyIn.nil
       go_simp
       refine ⟨fun h=>absurd h (by decide),hR.mono ?_⟩
       rintro e W3 ⟨tg1,hk1,hcs⟩
       obtain ⟨b,rfl,hb⟩:=said_bool hcs
       refine hK _ _ ?_
       clear hK K
       refine wpAnyIn_ready (rs:=[10]) (by kernel_rfl) (by simp) ?_
       refine AllReadyIn.cons rfl (fun K hK=>?_) AllReadyIn.nil
       go_simp
       refine hK _ _ ?_
       clear hK K
       refine wpAnyIn_done (by kernel_rfl) ?_ _
       rcases hb with ⟨rfl,_,hJ3⟩|⟨rfl,hJx3⟩
       ·gi_wp2
        exact ⟨tg1,(Kept.of_q ((Q.refl W).drew) (fun _ _=>rfl)).trans hk1,trivial,hJ3,(HK.out.trans (Kept.of_q ((Q.refl W).drew) (fun _ _=>rfl))).trans (hk1.wider fun _=>Or.inl)⟩
       ·gi_wp2
        exact ⟨tg1,(Kept.of_q ((Q.refl W).drew) (fun _ _=>rfl)).trans hk1,rfl,hJx3⟩
      exact AllReadyIn.nil
     exact AllReadyIn.nil
    exact AllReadyIn.nil
   exact AllReadyIn.nil
  refine AllReadyIn.cons rfl (fun K hK=>?_) ?_
  ·go_simp
   refine hK _ _ ?_
   clear hK K
   refine wpAnyIn_take rfl (i:=3) (v:=.pointer (some ⟨p,0,none⟩)) rfl (by kernel_rfl) (by kernel_rfl) (by kernel_rfl) (fun _ _ _ h=>h) (yields_plain rfl (fun _=>rfl) (fun _=>rfl)) ?_
   simp only [Act.put,nrm]
   refine wpAnyIn_take rfl (i:=4) (v:=.pointer (some ⟨p,1,none⟩)) rfl (by kernel_rfl) (by kernel_rfl) (by kernel_rfl) (fun _ _ _ h=>h) (yields_plain rfl (fun _=>rfl) (fun _=>rfl)) ?_
   simp only [Act.put,nrm]
   refine wpAnyIn_ready (rs:=[0,5]) (by kernel_rfl) (by simp) ?_
   refine AllReadyIn.cons rfl (fun K hK=>?_) ?_
   ·go_simp
    refine hK _ _ ?_
    clear hK K
    refine wpAnyIn_ready (rs:=[5]) (by kernel_rfl) (by simp) ?_
    refine AllReadyIn.cons rfl (fun K hK=>?_) ?_
    ·go_simp
     refine hK _ _ ?_
     clear hK K
     refine wpAnyIn_ready (rs:=[7]) (by kernel_rfl) (by simp) ?_
     refine AllReadyIn.cons rfl (fun K hK=>?_) ?_
     ·go_simp
      refine hK _ _ ?_
      clear hK K
      refine wpAnyIn_ready (rs:=[8]) (by kernel_rfl) (by simp) ?_
      refine AllReadyIn.cons rfl (fun K hK=>?_) ?_
      ·go_simp
       refine hK _ _ ?_
       clear hK K
       refine wpAnyIn_ready (rs:=[9]) (by kernel_rfl) (by simp) ?_
       refine AllReadyIn.cons rfl (fun K hK=>?_) AllReadyIn.nil
       go_simp
       refine ⟨fun h=>absurd h (by decide),hR.mono ?_⟩
       rintro e W3 ⟨tg1,hk1,hcs⟩
       obtain ⟨b,rfl,hb⟩:=said_bool hcs
       refine hK _ _ ?_
       clear hK K
       refine wpAnyIn_ready (rs:=[10]) (by kernel_rfl) (by simp) ?_
       refine AllReadyIn.cons rfl (fun K hK=>?_) AllReadyIn.nil
       go_simp
       refine hK _ _ ?_
       clear hK K
       refine wpAnyIn_done (by kernel_rfl) ?_ _
       rcases hb with ⟨rfl,_,hJ3⟩|⟨rfl,hJx3⟩
       ·gi_wp2
        exact ⟨tg1,(Kept.of_q ((Q.refl W).drew) (fun _ _=>rfl)).trans hk1,trivial,hJ3,(HK.out.trans (Kept.of_q ((Q.refl W).drew) (fun _ _=>rfl))).trans (hk1.wider fun _=>Or.inl)⟩
       ·gi_wp2
        exact ⟨tg1,(Kept.of_q ((Q.refl W).drew) (fun _ _=>rfl)).trans hk1,rfl,hJx3⟩
      exact AllReadyIn.nil
     exact AllReadyIn.nil
    exact AllReadyIn.nil
   refine AllReadyIn.cons rfl (fun K hK=>?_) ?_
   ·go_simp
    refine hK _ _ ?_
    clear hK K
    refine wpAnyIn_ready (rs:=[0,7]) (by kernel_rfl) (by simp) ?_
    refine AllReadyIn.cons rfl (fun K hK=>?_) ?_
    ·go_simp
     refine hK _ _ ?_
     clear hK K
     refine wpAnyIn_ready (rs:=[7]) (by kernel_rfl) (by simp) ?_
     refine AllReadyIn.cons rfl (fun K hK=>?_) ?_
     ·go_simp
      refine hK _ _ ?_
      clear hK K
      refine wpAnyIn_ready (rs:=[8]) (by kernel_rfl) (by simp) ?_
      refine AllReadyIn.cons rfl (fun K hK=>?_) ?_
      ·go_simp
       refine hK _ _ ?_
       clear hK K
       refine wpAnyIn_ready (rs:=[9]) (by kernel_rfl) (by simp) ?_
       refine AllReadyIn.cons rfl (fun K hK=>?_) AllReadyIn.nil
       go_simp
       refine ⟨fun h=>absurd h (by decide),hR.mono ?_⟩
       rintro e W3 ⟨tg1,hk1,hcs⟩
       obtain ⟨b,rfl,hb⟩:=said_bool hcs
       refine hK _ _ ?_
       clear hK K
       refine wpAnyIn_ready (rs:=[10]) (by kernel_rfl) (by simp) ?_
       refine AllReadyIn.cons rfl (fun K hK=>?_) AllReadyIn.nil
       go_simp
       refine hK _ _ ?_
       clear hK K
       refine wpAnyIn_done (by kernel_rfl) ?_ _
       rcases hb with ⟨rfl,_,hJ3⟩|⟨rfl,hJx3⟩
       ·gi_wp2
        exact ⟨tg1,(Kept.of_q ((Q.refl W).drew) (fun _ _=>rfl)).trans hk1,trivial,hJ3,(HK.out.trans (Kept.of_q ((Q.refl W).drew) (fun _ _=>rfl))).trans (hk1.wider fun _=>Or.inl)⟩
       ·gi_wp2
        exact ⟨tg1,(Kept.of_q ((Q.refl W).drew) (fun _ _=>rfl)).trans hk1,rfl,hJx3⟩
      exact AllReadyIn.nil
     exact AllReadyIn.nil
    refine AllReadyIn.cons rfl (fun K hK=>?_) ?_
    ·go_simp
     refine hK _ _ ?_
     clear hK K
     refine wpAnyIn_ready (rs:=[0,8]) (by kernel_rfl) (by simp) ?_
     refine AllReadyIn.cons rfl (fun K hK=>?_) ?_
     ·go_simp
      refine hK _ _ ?_
      clear hK K
      refine wpAnyIn_ready (rs:=[8]) (by kernel_rfl) (by simp) ?_
      refine AllReadyIn.cons rfl (fun K hK=>?_) ?_
      ·go_simp
       refine hK _ _ ?_
       clear hK K
       refine wpAnyIn_ready (rs:=[9]) (by kernel_rfl) (by simp) ?_
       refine AllReadyIn.cons rfl (fun K hK=>?_) AllReadyIn.nil
       go_simp
       refine ⟨fun h=>absurd h (by decide),hR.mono ?_⟩
       rintro e W3 ⟨tg1,hk1,hcs⟩
       obtain ⟨b,rfl,hb⟩:=said_bool hcs
       refine hK _ _ ?_
       clear hK K
       refine wpAnyIn_ready (rs:=[10]) (by kernel_rfl) (by simp) ?_
       refine AllReadyIn.cons rfl (fun K hK=>?_) AllReadyIn.nil
       go_simp
       refine hK _ _ ?_
       clear hK K
       refine wpAnyIn_done (by kernel_rfl) ?_ _
       rcases hb with ⟨rfl,_,hJ3⟩|⟨rfl,hJx3⟩
       ·gi_wp2
        exact ⟨tg1,(Kept.of_q ((Q.refl W).drew) (fun _ _=>rfl)).trans hk1,trivial,hJ3,(HK.out.trans (Kept.of_q ((Q.refl W).drew) (fun _ _=>rfl))).trans (hk1.wider fun _=>Or.inl)⟩
       ·gi_wp2
        exact ⟨tg1,(Kept.of_q ((Q.refl W).drew) (fun _ _=>rfl)).trans hk1,rfl,hJx3⟩
      exact AllReadyIn.nil
     refine AllReadyIn.cons rfl (fun K hK=>?_) ?_
     ·go_simp
      refine hK _ _ ?_
      clear hK K
      refine wpAnyIn_ready (rs:=[0]) (by kernel_rfl) (by simp) ?_
      refine AllReadyIn.cons rfl (fun K hK=>?_) ?_
      ·go_simp
       refine hK _ _ ?_
       clear hK K
       refine wpAnyIn_ready (rs:=[9]) (by kernel_rfl) (by simp) ?_
       refine AllReadyIn.cons rfl (fun K hK=>?_) AllReadyIn.nil
       go_simp
       refine ⟨fun h=>absurd h (by decide),hR.mono ?_⟩
       rintro e W3 ⟨tg1,hk1,hcs⟩
       obtain ⟨b,rfl,hb⟩:=said_bool hcs
       refine hK _ _ ?_
       clear hK K
       refine wpAnyIn_ready (rs:=[10]) (by kernel_rfl) (by simp) ?_
       refine AllReadyIn.cons rfl (fun K hK=>?_) AllReadyIn.nil
       go_simp
       refine hK _ _ ?_
       clear hK K
       refine wpAnyIn_done (by kernel_rfl) ?_ _
       rcases hb with ⟨rfl,_,hJ3⟩|⟨rfl,hJx3⟩
       ·gi_wp2
        exact ⟨tg1,(Kept.of_q ((Q.refl W).drew) (fun _ _=>rfl)).trans hk1,trivial,hJ3,(HK.out.trans (Kept.of_q ((Q.refl W).drew) (fun _ _=>rfl))).trans (hk1.wider fun _=>Or.inl)⟩
       ·gi_wp2
        exact ⟨tg1,(Kept.of_q ((Q.refl W).drew) (fun _ _=>rfl)).trans hk1,rfl,hJx3⟩
      exact AllReadyIn.nil
     exact AllReadyIn.nil
    exact AllReadyIn.nil
   exact AllReadyIn.nil
  exact AllReadyIn.nil
 case done =>
  rintro D tg W hD ⟨hj,_⟩ htD hDW
  gi_wp2
  refine ⟨by simp,.inl ⟨_,_,rfl,run_takeDeferred hDW,?_⟩⟩
  exact ⟨_,results_none rfl _ _ _,⟨_,rfl⟩,tg,Or.inl (hJ _ _ _ _ _ hj (Kept.put (by rw [htD];exact hlo) _))⟩
 case stop =>
  rintro D c tg i W hD ⟨rfl,hj⟩ htD hDW
  gi_wp2
  refine ⟨by simp,.inl ⟨_,_,rfl,run_takeDeferred hDW,?_⟩⟩
  exact ⟨_,results_none rfl _ _ _,⟨_,rfl⟩,tg,Or.inr ⟨i,hJx _ _ _ _ _ hj (Kept.put (by rw [htD];exact hlo) _)⟩⟩
end Go.Proofs.YtekdenkllipehabGreatDoor
namespace Go.Proofs.YtekdenkllipehabGreatDoor.S
open Go.RowKit
theorem settle_two (T:Two):S.settle T.dsk=if S.thereCode T.syncL.2=0 then (T.syncL.1.drop.1.dsk,S.thereCode T.syncL.1.drop.2) else (T.syncL.1.dsk,S.thereCode T.syncL.2):=by
 unfold S.settle
 rw [Two.syncL_dsk]
 simp only
 rw [Two.drop_dsk]
def newsStep (nw:List (ByteArray × Int)) (r:Rec):List (ByteArray × Int):=if hasK (nw.map (·.1)) r.key=true then nw else nw++[(r.key,r.stamp)]
def news (F:List Rec):List (ByteArray × Int):=F.foldl newsStep []
theorem news_snoc (F:List Rec) (r:Rec):news (F++[r])=newsStep (news F) r:=by simp [news]
theorem news_all {F:List Rec} (hF:F.Pairwise Bef):∀ j,j≤F.length→Rising ((news (F.take j)).map (·.1))∧(∀ k,k∈(news (F.take j)).map (·.1)↔∃ r∈F.take j,r.key=k)∧∀ k,lookK (news (F.take j)) k=(ofKey k (F.take j)).head?.map (·.stamp)
 | 0,_=>by
  refine ⟨List.Pairwise.nil,fun k=>by simp [news],fun k=>by simp [news,lookK,ofKey]⟩
 | j+1,hj=>by
  obtain ⟨h1,h2,h3⟩:=news_all hF j (by omega)
  obtain ⟨r,hr⟩:∃ r,F[j]?=some r:=⟨_,List.getElem?_eq_getElem (by omega)⟩
  have e:F.take (j+1)=F.take j++[r]:=by rw [List.take_add_one,hr];rfl
  have hbef:∀ x∈F.take j,Bef x r:=fun x hx=>by
   have hp:(F.take (j+1)).Pairwise Bef:=hF.sublist (List.take_sublist ..)
   rw [e,List.pairwise_append] at hp
   exact hp.2.2 x hx r (by simp)
  rw [e,news_snoc]
  have hmem:∀ k,(∃ x∈F.take j++[r],x.key=k)↔(∃ x∈F.take j,x.key=k)∨r.key=k:=fun k=>by
   constructor
   ·rintro ⟨x,hx,hk⟩
    rcases List.mem_append.1 hx with hx|hx
    ·exact Or.inl ⟨x,hx,hk⟩
    ·rw [List.mem_singleton.1 hx] at hk;exact Or.inr hk
   ·rintro (⟨x,hx,hk⟩|hk)
    ·exact ⟨x,List.mem_append_left _ hx,hk⟩
    ·exact ⟨r,by simp,hk⟩
  unfold newsStep
  by_cases hh:hasK ((news (F.take j)).map (·.1)) r.key=true
  ·rw [if_pos hh]
   obtain ⟨x,hx,hxk⟩:=(h2 r.key).1 (hasK_iff.1 hh)
   refine ⟨h1,fun k=>?_,fun k=>?_⟩
   ·rw [hmem k,h2 k]
    constructor
    ·exact Or.inl
    ·rintro (h|h)
     ·exact h
     ·exact ⟨x,hx,by rw [←h];exact hxk⟩
   ·rw [ofKey_append,h3 k]
    by_cases hk:r.key=k
    ·have hne:ofKey k (F.take j)≠[]:=fun e2=>by
      have:x∈ofKey k (F.take j):=mem_ofKey.2 ⟨hx,by rw [hxk];exact hk⟩
      rw [e2] at this
      simp at this
     obtain ⟨y,l,hy⟩:=List.exists_cons_of_ne_nil hne
     rw [hy]
     rfl
    ·have:ofKey k [r]=[]:=ofKey_none (fun y hy=>by rw [List.mem_singleton.1 hy];exact hk)
     rw [this,List.append_nil]
  ·rw [if_neg hh]
   have hno:∀ x∈F.take j,x.key≠r.key:=fun x hx hk=>hh (hasK_iff.2 ((h2 r.key).2 ⟨x,hx,hk⟩))
   have hless:∀ x∈F.take j,kless x.key r.key:=fun x hx=>by
    rcases hbef x hx with hb|hb
    ·exact hb
    ·exact absurd hb.1 (hno x hx)
   have hRise:Rising ((news (F.take j)++[(r.key,r.stamp)]).map (·.1)):=by
    unfold Rising
    rw [List.map_append,List.pairwise_append]
    refine ⟨h1,List.pairwise_singleton _ _,fun a ha b hb=>?_⟩
    obtain ⟨x,hx,hxk⟩:=(h2 a).1 ha
    rw [List.mem_singleton.1 hb,←hxk]
    exact hless x hx
   refine ⟨hRise,fun k=>?_,fun k=>?_⟩
   ·rw [List.map_append,List.mem_append,hmem k,h2 k]
    simp only [List.map_cons,List.map_nil,List.mem_singleton]
    constructor
    ·rintro (h|h)
     ·exact Or.inl h
     ·exact Or.inr h.symm
    ·rintro (h|h)
     ·exact Or.inl h
     ·exact Or.inr h.symm
   ·rw [ofKey_append]
    unfold lookK at h3 ⊢
    rw [List.find?_append]
    by_cases hk:r.key=k
    ·subst hk
     have hnone:ofKey r.key (F.take j)=[]:=ofKey_none hno
     have hf:=h3 r.key
     rw [hnone] at hf ⊢
     simp only [List.head?_nil,Option.map_none,Option.map_eq_none_iff] at hf
     rw [hf]
     simp [ofKey]
    ·have:ofKey k [r]=[]:=ofKey_none (fun y hy=>by rw [List.mem_singleton.1 hy];exact hk)
     rw [this,List.append_nil,←h3 k]
     simp [hk]
end Go.Proofs.YtekdenkllipehabGreatDoor.S
