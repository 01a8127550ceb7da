import Derived.Test.YtekdenkllipehabGreatDoorK21
import Derived.Deep.DeepCutAuto
import Derived.Deep.MidRow
set_option maxRecDepth 100000
set_option maxHeartbeats 8000000
namespace Go.Proofs.YtekdenkllipehabGreatDoor
open Go.RowKit
def RdNo (w:World) (e:Ending) (w':World):Prop:=
 ∃ (so eo:Option Addr) (n m sc ec:Nat),e=.returned (.tuple #[.agg #[.slice so n sc,.slice eo m ec],.bool false])∧Q w w'
def RdYes (acc:List Nat) (w:World) (e:Ending) (w':World):Prop:=
 ∃ (L:List M.St) (so eo:Option Addr) (sc ec:Nat),e=.returned (.tuple #[.agg #[.slice so L.length sc,.slice eo L.length ec],.bool true])∧(M.Goods L∧M.flat L=acc)∧Steps w' so L∧Ends w' eo L∧Q w w'
def RdEnd (size:Nat) (r:Option (List Nat)) (w:World) (e:Ending) (w':World):Prop:=
 match r with
 | none=>RdNo w e w'
 | some acc=>if acc.length=size then RdYes acc w e w' else RdNo w e w'
theorem infoStep:(Tryz.prog.info? 241).map (fun i=>(i.zero,i.size,i.bytes))=some (some (.agg #[.string ⟨#[]⟩,.int .i64 0,.int .i64 0]),3,32):=by kernel_rfl
theorem infoInt':(Tryz.prog.info? 3).map (fun i=>(i.zero,i.size,i.bytes))=some (some (.int .i64 0),1,8):=by kernel_rfl
theorem cells_at (w:World) (s:M.St) (t:TypeId):∀ j u,s.cells[j]?=some u→(w.alloc (.cells #[.string s.put,.int .i64 (s.place:Int),.int .i64 (s.size:Int)] t)).cell? ((⟨w.heap.size,0,none⟩:Addr).add j)=some u:=by
 intro j u hj
 match j,hj with
 | 0,hj=>simp [M.St.cells] at hj;subst hj;simp [Addr.add]
 | 1,hj=>simp [M.St.cells] at hj;subst hj;simp [Addr.add]
 | 2,hj=>simp [M.St.cells] at hj;subst hj;simp [Addr.add]
 | j+3,hj=>simp [M.St.cells] at hj
theorem cells_one (s:M.St):∀ u∈s.cells,u.oneCell'=true:=by
 intro u hu;simp [M.St.cells] at hu;rcases hu with rfl | rfl | rfl<;>rfl
theorem cell_grown2 {wb w':World} {row:Option Nat} {p:Addr} {v:Value} (hg:wb.grownBy w' row) (h:wb.cell? p=some v) (hne:∀ k,row=some k→k<p.block):w'.cell? p=some v:=by
 have hlt:p.block<wb.heap.size:=by
  rcases Nat.lt_or_ge p.block wb.heap.size with hl|hl
  ·exact hl
  ·unfold World.cell? at h
   rw [Array.getElem?_eq_none hl] at h
   simp at h
 exact (World.cell?_of_block (hg.block p.block hlt (fun e=>by have:=hne p.block e.symm;omega))).trans h
theorem read_some (s:ByteArray) (hs:s.size≤140737488351232) (size a0:Nat) (h0:M.getAt s.data.toList 0=some (size,a0)) (hsz:¬4096<size) (w:World) :
  Calls Tryz.prog 156 #[.string s] w fun e w'=>RdEnd size (M.stepsAt s.data.toList size (s.data.toList.length+1) a0 []) w e w':=by
 have hb0:=M.getAt_bound h0
 have G:Hid _:=get_some s 0 size a0 hs h0
 rw [show ((0:Nat):Int)=0 from rfl] at G
 have hl:s.data.toList.length=s.size:=by simp
 have hA:=M.at_start s.data.toList size a0 (by omega)
 have RS:Hid _:=readStep_any s hs
 have HSn:Hid (∀ a acc,M.stepOf s a=none→M.stepAt s.data.toList size a acc=none):=fun a acc h=>step_none h
 have HSs:Hid _:=fun (a a':Nat) (acc:List Nat) (st:M.St) (h:M.stepOf s a=some (st,a'))=>step_some (acc:=acc) h (show size≤4096 by omega)
 generalize M.stepsAt s.data.toList size (s.data.toList.length+1) a0 []=r at *
 generalize s.data.toList=l at *
 have HL:Hid (l.length=s.size):=hl
 have t1:decide ((4096:Int)<(size:Int))=false:=by simp;omega
 have hR:=Rd.start w
 obtain ⟨i0,hi,hz0,hz1,hz2⟩:=info_parts infoInt'
 obtain ⟨i1,hj,hy0,hy1,hy2⟩:=info_parts infoStep
 clear h0 hl
 go_enter Tryz.func156,Tryz.ntmps156
 go_wp2_with fail
 refine (G.out _).mono ?_
 rintro e w1 ⟨rfl,rfl⟩
 go_wp2_with fail
 go_loopw [5] (fun t wr=>∃ (a:Nat) (L:List M.St) (so eo:Option Addr) (sc ec:Nat),M.At l size r a (M.flat L)∧M.Goods L∧M.tot L≤size∧t=.int .i64 a∧Rd w L L so eo sc ec wr) (fun t _=>s.size-(intOf t).toNat)
 case atStart=>exact ⟨a0,[],none,none,0,0,hA,M.Goods.nil,Nat.zero_le _,rfl,hR⟩
 case round =>
  obtain ⟨a,L,so,eo,sc,ec,hat,hgd,htl,rfl,hr⟩:=hrel
  have hal:a≤s.size:=by have:=M.at_le hat;rw [HL.out] at this;exact this
  have hLl:=M.length_le_tot hgd
  have hfl:=M.flat_length hgd
  by_cases hlt:a<s.size
  ·cases hst:M.stepOf s a with
   | none =>
    have E:Hid (r=none):=M.at_none hat (by rw [HL.out];exact hlt) (HSn.out a _ hst)
    have RC:=RS.out a
    rw [hst] at RC
    simp only [stepEnd] at RC
    have RH:Hid _:=RC
    clear RC hst
    go_wp2_with fail
    refine (RH.out _).mono ?_
    rintro e w2 ⟨rfl,q2⟩
    have hr2:=(hr.kept q2).kept ((Q.refl w2).alloc #[.string ⟨#[]⟩,.int .i64 0,.int .i64 0] 241)
    clear hr q2
    go_wp2_with fail
    go_quiet (fail)
    have hr3:=hr2.kept ((Q.refl _).drewN nq)
    have hx0:=hr3.r0
    have hx1:=hr3.r1
    have hx2:=hr3.f0
    have hx3:=hr3.f1
    obtain ⟨k0,k1,kq,_,_⟩:=hr3.stored (.slice none 0 0) (.slice none 0 0)
    go_wp2_with fail
    refine bodyPost_ret (v:=.tuple #[.agg #[.slice none 0 0,.slice none 0 0],.bool false]) (by simp [results,Tryz.results156,go_sem,k0,k1]) rfl ?_
    rw [E.out]
    exact ⟨none,none,0,0,0,0,rfl,kq⟩
   | some p =>
    obtain ⟨st,a'⟩:=p
    obtain ⟨hbad,hgood,ha1,ha2,hp1,hp2⟩:=HSs.out a a' (M.flat L) st hst
    rw [hfl] at hbad hgood
    have RC:=RS.out a
    rw [hst] at RC
    simp only [stepEnd] at RC
    have RH:Hid _:=RC
    clear RC hst
    go_wp2_with fail
    refine (RH.out _).mono ?_
    rintro e w2 ⟨rfl,q2⟩
    have hr2:=(hr.kept q2).kept ((Q.refl w2).alloc #[.string st.put,.int .i64 (st.place:Int),.int .i64 (st.size:Int)] 241)
    obtain ⟨⟨x0,x1,x2⟩,⟨y0,y1,y2⟩⟩:=new3 (Q.refl (w2.alloc (.cells #[.string st.put,.int .i64 (st.place:Int),.int .i64 (st.size:Int)] 241)))
    have hc0:=hr2.c0
    have hc1:=hr2.c1
    have LC:=length_any L so eo L.length sc ec _ (own_ends ((hr2.kept (Q.refl _).drew).ownE)) (by omega)
    have LH:Hid _:=fun (_:Unit)=>LC
    have hEk:=(hr.kept q2).ownE.lt
    have hSk:=(hr.kept q2).ownS.lt
    have htop2:=(hr.kept q2).top
    clear LC hr q2
    by_cases hlong:size-M.tot L<st.size
    ·have E:Hid (r=none):=M.at_none hat (by rw [HL.out];exact hlt) (hbad hlong)
     have hwr:IntKind.i64.wrap ((size:Int)-(M.tot L:Int))=(size:Int)-(M.tot L:Int):=by rw [IntKind.wrap_i64];omega
     have t2:decide ((size:Int)-(M.tot L:Int)<(st.size:Int))=true:=by simp;omega
     clear hbad hgood
     go_upto_region 7 with fail
     go_cut [45] (fun x wx=>x=.bool true∧Q (w2.alloc (.cells #[.string st.put,.int .i64 (st.place:Int),.int .i64 (st.size:Int)] 241)) wx)
     case first =>
      go_region_held3 (fun w'=>w'.cell? ⟨w2.heap.size,2,none⟩=some (.int .i64 (st.size:Int))∧w'.cell? ⟨w.heap.size+1,0,none⟩=some (.slice so L.length sc)∧w'.cell? ⟨w.heap.size+1,1,none⟩=some (.slice eo L.length ec)) (first | exact ⟨x2,hc0,hc1⟩ | exact hS4)
       (first | (go_at_call 180;refine (LH.out ()).mono ?_;rintro e w4 ⟨rfl,q4⟩;have hS4:w4.cell? ⟨w2.heap.size,2,none⟩=some (.int .i64 (st.size:Int))∧w4.cell? ⟨w.heap.size+1,0,none⟩=some (.slice so L.length sc)∧w4.cell? ⟨w.heap.size+1,1,none⟩=some (.slice eo L.length ec):=⟨kept_cell x2 (q_undrew q4),kept_cell hc0 (q_undrew q4),kept_cell hc1 (q_undrew q4)⟩))
      all_goals
       go_wp2_with fail
       go_meet
       case rel=>exact ⟨rfl,q_undrew q4⟩
     case rest =>
      obtain ⟨rfl,q5⟩:=hcut
      have hr3:=hr2.kept q5
      have hx0:=hr3.r0
      have hx1:=hr3.r1
      have hx2:=hr3.f0
      have hx3:=hr3.f1
      obtain ⟨k0,k1,kq,_,_⟩:=hr3.stored (.slice none 0 0) (.slice none 0 0)
      go_wp2_with fail
      refine bodyPost_ret (v:=.tuple #[.agg #[.slice none 0 0,.slice none 0 0],.bool false]) (by simp [results,Tryz.results156,go_sem,k0,k1]) rfl ?_
      rw [E.out]
      exact ⟨none,none,0,0,0,0,rfl,kq⟩
    ·obtain ⟨hstep,hgs⟩:=hgood hlong
     have HA:Hid (M.At l size r a' (M.flat (L++[st]))):=by
      rw [M.flat_append,M.flat_one]
      exact M.at_step hat (by rw [HL.out];exact hlt) hstep
     have HG2:Hid (M.Goods (L++[st])):=hgd.append (M.Goods.one hgs)
     have HT2:Hid (M.tot (L++[st])≤size):=by rw [M.tot_append,M.tot_one];exact (by omega:M.tot L+st.size≤size)
     have hwr:IntKind.i64.wrap ((size:Int)-(M.tot L:Int))=(size:Int)-(M.tot L:Int):=by rw [IntKind.wrap_i64];omega
     have t2:decide ((size:Int)-(M.tot L:Int)<(st.size:Int))=false:=by simp;omega
     clear hbad hgood hstep
     go_upto_region 7 with fail
     go_cut [45] (fun x wx=>x=.bool false∧Q (w2.alloc (.cells #[.string st.put,.int .i64 (st.place:Int),.int .i64 (st.size:Int)] 241)) wx)
     case first =>
      go_region_held3 (fun w'=>w'.cell? ⟨w2.heap.size,2,none⟩=some (.int .i64 (st.size:Int))∧w'.cell? ⟨w.heap.size+1,0,none⟩=some (.slice so L.length sc)∧w'.cell? ⟨w.heap.size+1,1,none⟩=some (.slice eo L.length ec)) (first | exact ⟨x2,hc0,hc1⟩ | exact hS4)
       (first | (go_at_call 180;refine (LH.out ()).mono ?_;rintro e w4 ⟨rfl,q4⟩;have hS4:w4.cell? ⟨w2.heap.size,2,none⟩=some (.int .i64 (st.size:Int))∧w4.cell? ⟨w.heap.size+1,0,none⟩=some (.slice so L.length sc)∧w4.cell? ⟨w.heap.size+1,1,none⟩=some (.slice eo L.length ec):=⟨kept_cell x2 (q_undrew q4),kept_cell hc0 (q_undrew q4),kept_cell hc1 (q_undrew q4)⟩))
      all_goals
       go_wp2_with fail
       go_meet
       case rel=>exact ⟨rfl,q_undrew q4⟩
     case rest =>
      obtain ⟨rfl,q5⟩:=hcut
      have hr3:=hr2.kept q5
      have n0:=kept_cell x0 q5
      have n1:=kept_cell x1 q5
      have n2:=kept_cell x2 q5
      have LC2:=length_any L so eo L.length sc ec _ (own_ends ((hr3.kept (Q.refl _).drew).ownE)) (by omega)
      have LH2:Hid _:=fun (_:Unit)=>LC2
      have hc1:=hr3.c1
      have hc0:=hr3.c0
      have hw2:IntKind.i64.wrap ((M.tot L:Int)+(st.size:Int))=(M.tot L:Int)+(st.size:Int):=by rw [IntKind.wrap_i64];omega
      clear LC2 LH hr2 x0 x1 x2 y0 y1 y2 q5 hwr t2
      go_upto_region 9 with fail
      go_cut [4] (fun x wx=>x=.int .i64 size∧∃ (eo':Option Addr) (ec':Nat),Rd w L (L++[st]) so eo' sc ec' wx∧wx.cell? ⟨w2.heap.size,0,none⟩=some (.string st.put)∧wx.cell? ⟨w2.heap.size,1,none⟩=some (.int .i64 (st.place:Int))∧wx.cell? ⟨w2.heap.size,2,none⟩=some (.int .i64 (st.size:Int)))
      case first =>
       go_region_law (first
        | (refine step_append_own rfl (.tmp 48) (.tmp 54) 51 rfl (w.heap.size+2) 3 i0 (.int .i64 0) 1 8 Tryz.underlying51 hi hz0 hz1 hz2 rfl (by decide) (.slice eo L.length ec) L.length (endVals L) (by simp [Act.eval]) (by exact hr4.ownE.alloc _) ⟨w6.heap.size,0,none⟩ 1 1 [.int .i64 ((M.tot L:Int)+(st.size:Int))] (by simp [Act.eval]) rfl (one_cell _ _ _) (one_val _) (by unfold maxLen;omega) (by omega) (by simp;omega) ?_;intro v' w' hown' hgrow;obtain ⟨eo3,ec3,hv⟩:=own_form hown';rw [hv] at hown';rw [hv];obtain ⟨kc,kf,hrn⟩:=(hr4.kept ((Q.refl _).alloc _ _)).pushE st _ (by omega) hgrow hown';have m0:=cell_grown2 hgrow (kept_cell p0 ((Q.refl _).alloc _ _)) (fun k hk=>(hEk k hk).2);have m1:=cell_grown2 hgrow (kept_cell p1 ((Q.refl _).alloc _ _)) (fun k hk=>(hEk k hk).2);have m2:=cell_grown2 hgrow (kept_cell p2 ((Q.refl _).alloc _ _)) (fun k hk=>(hEk k hk).2);clear hown' hgrow hv)
        | (go_simp;go_at_call 180;refine (LH2.out ()).mono ?_;rintro e w6 ⟨rfl,q6⟩;have hr4:=hr3.kept (q_undrew q6);have ht4:=hr4.top;have b0:=hr4.c0;have b1:=hr4.c1;have b2:=kept_cell b1 ((Q.refl w6).alloc #[.int .i64 ((M.tot L:Int)+(st.size:Int))] 3);have p0:=kept_cell n0 (q_undrew q6);have p1:=kept_cell n1 (q_undrew q6);have p2:=kept_cell n2 (q_undrew q6);go_wp2_with fail))
       all_goals
        go_wp2_with fail
        go_meet
        case rel =>
         refine ⟨rfl,eo3,ec3,hrn,?_,?_,?_⟩
         ·rw [World.cell?_setCell_other _ _ _ _ (by intro e;injection e;omega)];exact m0
         ·rw [World.cell?_setCell_other _ _ _ _ (by intro e;injection e;omega)];exact m1
         ·rw [World.cell?_setCell_other _ _ _ _ (by intro e;injection e;omega)];exact m2
      case rest =>
       obtain ⟨rfl,eo4,ec4,hr5,o0,o1,o2⟩:=hcut
       have e0:=hr5.c0
       have hown:=hr5.ownS
       have htop5:=hr5.top
       have hEl:(L++[st]).length=L.length+1:=by simp
       clear hr3 n0 n1 n2 LH2 hc1 hc0 hw2
       go_wp2_with (at_builtin;refine wpList_append_own _ rfl (.tmp 58) (.tmp 60) 213 rfl (w.heap.size+2) 241 i1 (.agg #[.string ⟨#[]⟩,.int .i64 0,.int .i64 0]) 3 32 Tryz.underlying213 hj hy0 hy1 hy2 rfl (by decide) _ _ _ rfl (hown.alloc _) ⟨wc.heap.size,0,none⟩ 1 1 st.cells rfl rfl ?c1 ?c2 ?c3 ?c4 ?c5 ?_)
       case c1=>exact cells_at _ _ _
       case c2=>exact cells_one _
       case c3=>unfold maxLen;omega
       case c4=>omega
       case c5=>simp;omega
       intro v' w' hown' hgrow _
       obtain ⟨so3,sc3,hv⟩:=own_form hown'
       rw [hv] at hown'
       rw [hv]
       obtain ⟨kc,kf,hrn⟩:=(hr5.kept ((Q.refl _).alloc _ _)).pushS st hgrow hown'
       clear hown' hgrow hown hv
       go_wp2_with fail
       go_roundw
       case rel=>exact ⟨a',L++[st],so3,eo4,sc3,ec4,HA.out,HG2.out,HT2.out,by go_num,hrn⟩
       case measure=>simp [intOf];omega
  ·have E:Hid (r=some (M.flat L)):=M.at_end hat (by rw [HL.out];exact hlt)
   have LC:=length_any L so eo L.length sc ec _ (own_ends ((hr.kept (Q.refl _).drew).ownE)) (by omega)
   have LH:Hid _:=fun (_:Unit)=>LC
   have hc0:=hr.c0
   have hc1:=hr.c1
   clear LC
   by_cases heq:M.tot L=size
   ·have t2:((M.tot L:Int) == (size:Int))=true:=by simp;omega
    go_upto_region 12 with fail
    go_region_held3 (fun w'=>w'.cell? ⟨w.heap.size+1,0,none⟩=some (.slice so L.length sc)∧w'.cell? ⟨w.heap.size+1,1,none⟩=some (.slice eo L.length ec)) (first | exact ⟨hc0,hc1⟩ | exact ⟨b0,b1⟩ | exact ⟨(World.cell?_setCell_other _ _ _ _ (by simp)).trans ((World.cell?_setCell_other _ _ _ _ (by simp)).trans b0),(World.cell?_setCell_other _ _ _ _ (by simp)).trans ((World.cell?_setCell_other _ _ _ _ (by simp)).trans b1)⟩)
     (first | (go_at_call 180;refine (LH.out ()).mono ?_;rintro e w4 ⟨rfl,q4⟩;have hr4:=hr.kept (q_undrew q4);have b0:=hr4.c0;have b1:=hr4.c1;have z0:=hr4.r0;have z1:=hr4.r1;have z2:=hr4.f0;have z3:=hr4.f1))
    all_goals
     obtain ⟨k0,k1,kq,ks,ke⟩:=hr4.stored (.slice so L.length sc) (.slice eo L.length ec)
     go_wp2_with fail
     refine bodyPost_ret (v:=.tuple #[.agg #[.slice so L.length sc,.slice eo L.length ec],.bool true]) (by simp [results,Tryz.results156,go_sem,k0,k1]) rfl ?_
     rw [E.out]
     show (if (M.flat L).length=size then _ else _)
     rw [if_pos (by omega)]
     exact ⟨L,so,eo,sc,ec,rfl,⟨hgd,rfl⟩,ks,ke,kq⟩
   ·have t2:((M.tot L:Int) == (size:Int))=false:=by simp;omega
    go_upto_region 12 with fail
    go_region_held3 (fun w'=>w'.cell? ⟨w.heap.size+1,0,none⟩=some (.slice so L.length sc)∧w'.cell? ⟨w.heap.size+1,1,none⟩=some (.slice eo L.length ec)) (first | exact ⟨hc0,hc1⟩ | exact ⟨b0,b1⟩ | exact ⟨(World.cell?_setCell_other _ _ _ _ (by simp)).trans ((World.cell?_setCell_other _ _ _ _ (by simp)).trans b0),(World.cell?_setCell_other _ _ _ _ (by simp)).trans ((World.cell?_setCell_other _ _ _ _ (by simp)).trans b1)⟩)
     (first | (go_at_call 180;refine (LH.out ()).mono ?_;rintro e w4 ⟨rfl,q4⟩;have hr4:=hr.kept (q_undrew q4);have b0:=hr4.c0;have b1:=hr4.c1;have z0:=hr4.r0;have z1:=hr4.r1;have z2:=hr4.f0;have z3:=hr4.f1))
    all_goals
     obtain ⟨k0,k1,kq,ks,ke⟩:=hr4.stored (.slice so L.length sc) (.slice eo L.length ec)
     go_wp2_with fail
     refine bodyPost_ret (v:=.tuple #[.agg #[.slice so L.length sc,.slice eo L.length ec],.bool false]) (by simp [results,Tryz.results156,go_sem,k0,k1]) rfl ?_
     rw [E.out]
     show (if (M.flat L).length=size then _ else _)
     rw [if_neg (by omega)]
     exact ⟨so,eo,L.length,L.length,sc,ec,rfl,kq⟩
structure Grow (w0:World) (C:List M.St) (ao:Option Addr) (cap:Nat) (wr:World):Prop where
 below:Below w0.heap.size w0 wr
 own:wr.ownsRow w0.heap.size 241 3 (.slice ao C.length cap) C.length (cellsOf C)
theorem Grow.start (w0:World):Grow w0 [] none 0 w0:=⟨Below.refl _ _,World.ownsRow_nil _ _ _ _⟩
theorem Grow.kept {w0 wr wr':World} {C:List M.St} {ao:Option Addr} {cap:Nat} (h:Grow w0 C ao cap wr) (q:Q wr wr'):Grow w0 C ao cap wr':=
 ⟨h.below.trans (q.below.mono h.below.size),own_below h.own q.below⟩
theorem Grow.q {w0 wr:World} {C:List M.St} {ao:Option Addr} {cap:Nat} (h:Grow w0 C ao cap wr):Q w0 wr:=⟨h.below⟩
theorem Grow.cap {w0 wr:World} {C:List M.St} {ao:Option Addr} {cap:Nat} (h:Grow w0 C ao cap wr):C.length≤cap:=by
 rcases h.own.2 with ⟨hv,h0⟩|⟨g,c,cur,hv,_,_,hc,_⟩
 ·omega
 ·injection hv with _ _ e;omega
theorem Grow.push {w0 wr w':World} {C D:List M.St} {ao ao':Option Addr} {cap cap':Nat} (h:Grow w0 C ao cap wr)
  (hg:wr.grownBy w' (Value.slice ao C.length cap).ownBlock)
  (ho:w'.ownsRow w0.heap.size 241 3 (.slice ao' (C.length+D.length) cap') (C.length+D.length) (cellsOf C++cellsOf D)) :
  Grow w0 (C++D) ao' cap' w':=by
 refine ⟨h.below.grown hg h.below.size (own_base h.own),?_⟩
 rw [cellsOf_append,List.length_append]
 exact ho
theorem steps_take {w:World} {g o:Nat} {R:List M.St} (h:StAt w g o R) (hg:g<w.heap.size) (n:Nat):Steps w (some ⟨g,o,none⟩) (R.take n):=Or.inr ⟨g,o,rfl,hg,h.take n⟩
structure Wrote (L:List M.St) (k:Nat) (P:List ByteArray):Prop where
 le:k≤L.length
 text:∃ T,M.Wr T (M.flat (L.take k))∧T.length≤M.cost (L.take k)∧M.cat P=M.enc 7 (M.tot L)++T
 few:P.length≤2*k+1
theorem wrote_start (L:List M.St):Wrote L 0 [⟨(M.enc 7 (M.tot L)).toArray⟩]:=
 ⟨Nat.zero_le _,⟨[],by rw [List.take_zero];exact M.Wr.nil,by simp,by simp [M.cat]⟩,by simp⟩
theorem Wrote.chain {L:List M.St} {k:Nat} {P:List ByteArray} (h:Wrote L k P) (hg:M.Goods L) (ht:M.tot L≤4096) (n:Nat) (hn:1≤n) (hk:k+n≤L.length) (hc:M.Chain ((L.drop k).take n)) (P':List ByteArray)
  (hP:M.cat P'=M.cat P++(M.headOf ((L.drop k).take n)++M.puts ((L.drop k).take n))) (hl:P'.length=P.length+1+n):Wrote L (k+n) P':=by
 obtain ⟨T,h1,h2,h3⟩:=h.text
 have hfew:=h.few
 have hsplit:L.take (k+n)=L.take k++(L.drop k).take n:=List.take_add
 have hne:(L.drop k).take n≠[]:=by
  intro e
  have:=congrArg List.length e
  simp at this
  omega
 obtain ⟨s,R,hR⟩:=List.exists_cons_of_ne_nil hne
 have hgc:M.Goods ((L.drop k).take n):=(hg.drop k).take n
 have htc:M.tot ((L.drop k).take n)≤4096:=by
  have e1:=M.tot_split L k
  have e2:=M.tot_take_le (L.drop k) n
  omega
 rw [hR] at hc hgc htc hP hsplit
 obtain ⟨hw,hlen⟩:=M.chain_wr h1 s R hc hgc htc
 refine ⟨hk,⟨T++(M.headOf (s::R)++M.puts (s::R)),?_,?_,?_⟩,by omega⟩
 ·rw [hsplit,M.flat_append];exact hw
 ·rw [hsplit,M.cost_append,List.length_append];omega
 ·rw [hP,h3,List.append_assoc]
def WriteSaid (L:List M.St) (C:ByteArray):Prop:=∃ T,M.Wr T (M.flat L)∧T.length≤M.cost L∧C.data.toList=M.enc 7 (M.tot L)++T
theorem wrote_end {L:List M.St} {P:List ByteArray} (h:Wrote L L.length P):WriteSaid L ⟨(M.cat P).toArray⟩:=by
 obtain ⟨T,h1,h2,h3⟩:=h.text
 rw [List.take_length] at h1 h2
 exact ⟨T,h1,h2,by simpa using h3⟩
theorem WriteSaid.parse {L:List M.St} {C:ByteArray} (h:WriteSaid L C) (hg:M.Goods L) (ht:M.tot L≤4096):M.parse C.data.toList=some (M.tot L,M.flat L)∧C.size≤2+M.cost L:=by
 obtain ⟨T,h1,h2,h3⟩:=h
 have hl:=M.flat_length hg
 refine ⟨?_,?_⟩
 ·rw [h3,←hl];exact M.parse_wr h1 (by omega)
 ·have e:=M.enc_two (n:=M.tot L) (by omega)
  have:C.size=C.data.toList.length:=by simp
  rw [this,h3,List.length_append];omega
theorem cost_le:∀ {L:List M.St},M.Goods L→M.cost L≤10*L.length+M.tot L
 | [],_=>by simp [M.cost]
 | s::L,hg=>by
  have ih:=cost_le (L:=L) fun t ht=>hg t (by simp [ht])
  have hp:=(hg s (by simp)).pos
  have e1:=M.enc_two (n:=2*s.size+1) (by omega)
  have e2:=M.enc_two (n:=2*s.size) (by omega)
  have e3:=M.enc_len s.place
  have hs:s.put.size≤s.size:=by rcases hg s (by simp) with e | e<;>omega
  simp only [M.cost,M.tot,List.length_cons]
  unfold M.St.cost
  split<;>omega
def sliceLen:Value→Nat
 | .slice _ n _=>n
 | _=>0
theorem parts_start {w w2:World} (q:Q w w2) (x:ByteArray):Parts w [x] (some ⟨w2.heap.size,0,none⟩) 1 (w2.alloc (.cells #[.string x] 9)):=
 ⟨(q.alloc _ _).below,⟨rfl,Or.inr ⟨w2.heap.size,1,#[.string x],rfl,q.below.size,heap_alloc_new w2 _,Nat.le_refl _,by unfold maxLen;omega,rfl,rfl⟩⟩⟩
theorem cut_head (g o N n sc:Nat) (h:n≤sc) (W:World) :
  (Instr.slice 213 (.slice (some ⟨g,o,none⟩) N sc) none (some (.int .i64 (n:Int))) none).run Tryz.prog W=.ok (.slice (some ⟨g,o,none⟩) n sc) W:=by
 rw [run_slice_h W 213 (some ⟨g,o,none⟩) N sc Tryz.underlying213 .i64 (n:Int) (by omega) (by omega)]
 have hs:(Go.sizeOf (Tryz.prog.elem 213)).run Tryz.prog W=.ok 3 W:=Tryz.sizeOf241 W
 rw [hs]
 simp [Result.andThen,sliced,Addr.add]
theorem cut_tail {w:World} {g o:Nat} {R:List M.St} (h:StAt w g o R) (hg:g<w.heap.size) (n sc:Nat) (hn:n≤R.length) (hc:R.length≤sc) :
  ∃ so,(∀ W:World,(Instr.slice 213 (.slice (some ⟨g,o,none⟩) R.length sc) (some (.int .i64 (n:Int))) none none).run Tryz.prog W=.ok (.slice so (R.length-n) (sc-n)) W)∧Steps w so (R.drop n):=by
 have hs:∀ W,(Go.sizeOf (Tryz.prog.elem 213)).run Tryz.prog W=.ok 3 W:=fun W=>Tryz.sizeOf241 W
 by_cases e:sc=n
 ·refine ⟨some ⟨g,o,none⟩,fun W=>?_,Or.inl ?_⟩
  ·rw [run_slice_l W 213 (some ⟨g,o,none⟩) R.length sc Tryz.underlying213 .i64 (n:Int) (by omega) (by omega),hs]
   simp [Result.andThen,sliced,e]
  ·apply List.eq_nil_of_length_eq_zero;simp;omega
 ·refine ⟨some ⟨g,o+n*3,none⟩,fun W=>?_,Or.inr ⟨g,o+n*3,rfl,hg,h.drop n⟩⟩
  rw [run_slice_l W 213 (some ⟨g,o,none⟩) R.length sc Tryz.underlying213 .i64 (n:Int) (by omega) (by omega),hs]
  simp [Result.andThen,sliced,e,Addr.add]
theorem puts_vals_take {R:List M.St} {j:Nat} {s:M.St} (h:R[j]?=some s):(R.take (j+1)).map M.St.put=(R.take j).map M.St.put++[s.put]:=by
 rw [M.take_succ h];simp
theorem cat_puts (R:List M.St):M.cat (R.map M.St.put)=M.puts R:=by
 induction R with
 | nil=>rfl
 | cons s R ih=>show s.put.data.toList++M.cat (R.map M.St.put)=_;rw [ih];rfl
theorem write_any (L:List M.St) (ao:Option Addr) (cap:Nat) (w:World) (h:Steps w ao L) (ht:M.tot L≤4096) (hg:M.Goods L) (hcap:L.length≤cap) :
  Calls Tryz.prog 159 #[.slice ao L.length cap] w fun e w'=>∃ C:ByteArray,WriteSaid L C∧e=.returned (.string C)∧Q w w':=by
 have hn:=M.length_le_tot hg
 have MC:Hid _:=fun (_:Unit)=>made_any L ao cap w h ht hg
 have NC:Hid _:=number_any (M.tot L) (by omega)
 have HW:Hid (Wrote L 0 [⟨(M.enc 7 (M.tot L)).toArray⟩]):=wrote_start L
 have HWc:Hid (∀ (k n:Nat) (P P':List ByteArray),Wrote L k P→1≤n→k+n≤L.length→M.Chain ((L.drop k).take n)→M.cat P'=M.cat P++(M.headOf ((L.drop k).take n)++M.puts ((L.drop k).take n))→P'.length=P.length+1+n→Wrote L (k+n) P'):=
  fun k n P P' h1 h2 h3 h4 h5 h6=>h1.chain hg ht n h2 h3 h4 P' h5 h6
 have HGd:Hid (∀ k,M.Goods (L.drop k)):=fun k=>hg.drop k
 have HTd:Hid (∀ k,M.tot (L.drop k)≤4096):=fun k=>by have:=M.tot_split L k;omega
 have HJ:Hid (∀ P:List ByteArray,Wrote L L.length P→(M.cat P).length≤140737488355328∧WriteSaid L ⟨(M.cat P).toArray⟩):=fun P hP=>by
  have e:=wrote_end hP
  refine ⟨?_,e⟩
  obtain ⟨T,h1,h2,h3⟩:=e
  have h3':M.cat P=M.enc 7 (M.tot L)++T:=by simpa using h3
  have c1:=cost_le hg
  have c2:=M.enc_len (M.tot L)
  rw [h3',List.length_append];omega
 have HH:Hid (Steps w ao (L.drop 0)):=by rw [List.drop_zero];exact h
 obtain ⟨i0,hi,hz0,hz1,hz2⟩:=info_parts infoString
 generalize M.tot L=T at *
 clear h hg
 go_enter Tryz.func159,Tryz.ntmps159
 go_wp2_with fail
 refine (MC.out ()).mono ?_
 rintro e w1 ⟨rfl,q1⟩
 go_wp2_with fail
 refine (NC.out _).mono ?_
 rintro e w2 ⟨rfl,q2⟩
 have hp0:=parts_start (q1.trans q2) ⟨(M.enc 7 T).toArray⟩
 go_wp2_with fail
 go_loopw [0,3] (fun t p wr=>∃ (k:Nat) (so:Option Addr) (sc:Nat) (P:List ByteArray) (ap:Option Addr) (cp:Nat),t=.slice so (L.length-k) sc∧L.length-k≤sc∧Steps w so (L.drop k)∧p=.slice ap P.length cp∧Parts w P ap cp wr∧Wrote L k P) (fun t _ _=>sliceLen t)
 case atStart=>exact ⟨0,ao,cap,_,_,_,rfl,by omega,HH.out,rfl,hp0,HW.out⟩
 case round =>
  obtain ⟨k,so,sc,P,ap,cp,rfl,hsc,hst,rfl,hp,hw⟩:=hrel
  have hwk:=hw.le
  by_cases hlt:k<L.length
  ·obtain ⟨R,hR⟩:∃ R,R=L.drop k:=⟨_,rfl⟩
   have hRl:L.length-k=R.length:=by rw [hR];simp
   have hGR:=HGd.out k
   have hTR:=HTd.out k
   have HWk:Hid _:=fun (n:Nat) (P':List ByteArray)=>HWc.out k n P P' hw
   have HRd:Hid (∀ n,(L.drop k).drop n=L.drop (k+n)):=fun n=>by rw [List.drop_drop]
   rw [←hR] at hst hGR hTR HWk HRd
   rw [hRl] at hsc
   have HRk:Hid (L.length=k+R.length):=(by omega:L.length=k+R.length)
   have hRk2:k+R.length≤L.length:=by omega
   obtain ⟨g,o,rfl,hgl,hat⟩:=hst.at (k:=0) (by omega)
   have hPl:=hw.few
   rw [hRl]
   have hR1:1≤R.length:=by omega
   have hR0:0<R.length:=hR1
   have HC1:Hid (M.Chain (R.take 1)):=by
    cases R with
    | nil=>simp at hR1
    | cons a R=>exact trivial
   clear hst hw hR hRl hp0 HW MC NC q1 q2
   obtain ⟨wo,rfl⟩:∃ wo:World,wo=wr:=⟨_,rfl⟩
   go_wp2_with fail
   go_loopw [4] (fun t wi=>∃ n m:Nat,n=m+1∧n≤R.length∧M.Chain (R.take n)∧t=.int .i64 ((m:Int)+1)∧Q wo wi) (fun t _=>R.length-(intOf t).toNat)
   case atStart=>exact ⟨1,0,rfl,hR1,HC1.out,rfl,Q.refl _⟩
   case round =>
    obtain ⟨n,m,hnm,hnR,hch,rfl,hqi⟩:=hrel
    have hn1:1≤n:=by omega
    have hmR:m<R.length:=by omega
    have HNM:Hid (n=m+1):=hnm
    clear hnm
    have hp1:=hp.kept hqi
    have hgw:g<wr.heap.size:=by have:=hp1.below.size;omega
    obtain ⟨b,hb⟩:∃ b:Bool,b=(if hx:n<R.length then leads (R[n-1]) (R[n]) else false):=⟨_,rfl⟩
    have HCh:Hid (M.Chain (R.take n)):=hch
    clear hch
    go_upto_region 4 with fail
    go_cut [29] (fun x wx=>x=.bool b∧Q wr wx)
    case first =>
     by_cases hx:n<R.length
     ·rw [dif_pos hx] at hb
      have hnm:=HNM.out
      subst hnm
      simp only [Nat.add_sub_cancel] at hb
      have hg1:R[m]?=some R[m]:=List.getElem?_eq_getElem (by omega)
      have hg2:R[m+1]?=some R[m+1]:=List.getElem?_eq_getElem hx
      have hat1:=hat.kept hgl hp1.below
      obtain ⟨c0,c1,c2⟩:=hat1 m _ hg1
      obtain ⟨d0,d1,d2⟩:=hat1 (m+1) _ hg2
      have hpos:=(hGR.get hg1).pos
      have LT:=leadsTo_any R[m] R[m+1] (by omega)
      rw [←hb] at LT
      have LH:Hid _:=LT
      generalize R[m]=s1 at *
      generalize R[m+1]=s2 at *
      have hwn:IntKind.i64.wrap (m:Int)=(m:Int):=by rw [IntKind.wrap_i64];omega
      have hd:decide ((m:Int)+1<(R.length:Int))=true:=by simp;omega
      have hx1:(m:Int)<(R.length:Int):=by omega
      have hx2:(m:Int)+1<(R.length:Int):=by omega
      have hx3:(0:Int)≤(m:Int)+1:=by omega
      have hx4:((m:Int)+1).toNat=m+1:=by omega
      clear LT hb hg1 hg2 hat1 HCh hp1 hp hat hGR hpos hqi hn1 hnR hmR hx
      go_region_held3 (fun w'=>Q wr w'∧w'.cell? ⟨g,o+m*3,none⟩=some (.string s1.put)∧w'.cell? ⟨g,o+m*3+1,none⟩=some (.int .i64 (s1.place:Int))∧w'.cell? ⟨g,o+m*3+2,none⟩=some (.int .i64 (s1.size:Int))∧w'.cell? ⟨g,o+(m+1)*3,none⟩=some (.string s2.put)∧w'.cell? ⟨g,o+(m+1)*3+1,none⟩=some (.int .i64 (s2.place:Int))∧w'.cell? ⟨g,o+(m+1)*3+2,none⟩=some (.int .i64 (s2.size:Int))) (first | exact ⟨(Q.refl _).drew,c0,c1,c2,d0,d1,d2⟩ | exact hS4) (first | (go_at_call 183;refine (LH.out _).mono ?_;rintro e w4 ⟨rfl,q4⟩;have hS4:Q wr w4∧w4.cell? ⟨g,o+m*3,none⟩=some (.string s1.put)∧w4.cell? ⟨g,o+m*3+1,none⟩=some (.int .i64 (s1.place:Int))∧w4.cell? ⟨g,o+m*3+2,none⟩=some (.int .i64 (s1.size:Int))∧w4.cell? ⟨g,o+(m+1)*3,none⟩=some (.string s2.put)∧w4.cell? ⟨g,o+(m+1)*3+1,none⟩=some (.int .i64 (s2.place:Int))∧w4.cell? ⟨g,o+(m+1)*3+2,none⟩=some (.int .i64 (s2.size:Int)):=⟨q_undrew q4,kept_cell c0 (q_undrew q4),kept_cell c1 (q_undrew q4),kept_cell c2 (q_undrew q4),kept_cell d0 (q_undrew q4),kept_cell d1 (q_undrew q4),kept_cell d2 (q_undrew q4)⟩))
      all_goals
       go_wp2_with fail
       go_meet
       case rel=>exact ⟨rfl,q_undrew q4⟩
     ·rw [dif_neg hx] at hb
      have hd:decide ((m:Int)+1<(R.length:Int))=false:=by have:=HNM.out;simp;omega
      subst hb
      go_quiet (fail)
      go_wp2_with fail
      go_meet
      case rel=>exact ⟨rfl,(Q.refl _).drewN _⟩
    case rest =>
     obtain ⟨rfl,qc⟩:=hcut
     cases b with
     | true =>
      have hx:n<R.length:=by
       by_cases hx:n<R.length
       ·exact hx
       ·rw [dif_neg hx] at hb;simp at hb
      rw [dif_pos hx] at hb
      have HC2:Hid (M.Chain (R.take (n+1))):=by
       have e:n-1+2=n+1:=by omega
       have:=M.chain_take (L:=R) (k:=n-1) (s:=R[n-1]) (t:=R[n]) (by rw [show n-1+1=n by omega];exact HCh.out) (List.getElem?_eq_getElem (by omega)) (by rw [show n-1+1=n by omega];exact List.getElem?_eq_getElem hx) ((leads_iff _ _).1 hb.symm)
       rw [e] at this
       exact this
      clear hb
      go_wp2_with fail
      go_roundw
      case rel=>exact ⟨n+1,n,rfl,by omega,HC2.out,by rw [HNM.out];go_num,hqi.trans qc⟩
      case measure=>have:=HNM.out;simp [intOf];omega
     | false =>
      have hpc:=hp1.kept qc
      have hQc:Q w wc:=⟨hpc.below⟩
      have hTl:(R.take n).length=n:=by simp;omega
      have hne:R.take n≠[]:=fun e=>by rw [e] at hTl;simp at hTl;omega
      obtain ⟨s0,R0,hsR⟩:=List.exists_cons_of_ne_nil hne
      have HC:=head_any s0 R0 (some ⟨g,o,none⟩) sc wc (by rw [←hsR];exact (steps_take hat hgl n).kept hQc) (by rw [←hsR];have:=M.tot_take_le R n;omega) (by rw [←hsR];exact hGR.take n)
      rw [←hsR,hTl] at HC
      have HH2:Hid _:=fun (_:Unit)=>HC
      have hs1:=cut_head g o R.length n sc (by omega)
      have hni:(n:Int)=(m:Int)+1:=by have:=HNM.out;omega
      obtain ⟨so2,hs2,hst2⟩:=cut_tail hat hgl n sc hnR hsc
      rw [hni] at hs1 hs2
      clear hni
      have HS2:Hid _:=hs2
      have HST2:Hid _:=fun (_:Unit)=>hst2
      have HHd:Hid (M.headOf (R.take n)=M.headOf (R.take n)):=rfl
      have HWn:Hid _:=fun (P':List ByteArray)=>HWk.out n P' hn1 (by omega) HCh.out
      obtain ⟨Hd,hHd⟩:∃ Hd:ByteArray,Hd=⟨(M.headOf (R.take n)).toArray⟩:=⟨_,rfl⟩
      rw [←hHd] at HH2
      have HHd2:Hid (Hd.data.toList=M.headOf (R.take n)):=by rw [hHd];exact (List.toList_toArray:(M.headOf (R.take n)).toArray.toList=_)
      clear HC hb hs2 hst2 hHd HHd hne hsR hp hp1
      go_wp2_with fail
      refine (HH2.out ()).mono ?_
      rintro e w3 ⟨rfl,q3⟩
      have hp3:=hpc.kept q3
      have hown:=hp3.own
      have hsz:=hp3.below.size
      go_wp2_with (at_builtin;refine wpList_append_own _ rfl (.tmp 32) (.tmp 37) 63 rfl w.heap.size 9 i0 (.string ⟨#[]⟩) 1 16 Tryz.underlying63 hi hz0 hz1 hz2 rfl (by decide) _ _ _ rfl (hown.alloc _) ⟨w3.heap.size,0,none⟩ 1 1 [.string Hd] rfl rfl ?c1 ?c2 ?c3 ?c4 ?c5 ?_)
      case c1=>exact one_cell _ _ _
      case c2=>exact one_str _
      case c3=>unfold maxLen;omega
      case c4=>omega
      case c5=>simp;omega
      intro v' w' hown' hgrow _
      obtain ⟨ap3,cp3,hv⟩:=own_form hown'
      rw [hv] at hown'
      rw [hv]
      have hp4:=hp3.push _ _ hgrow hown'
      clear hown' hgrow hown hv hpc hQc hqi qc q3
      have hL0:(P++[Hd]++(R.take 0).map M.St.put).length=P.length+1:=by simp
      have hp5:Parts w (P++[Hd]++(R.take 0).map M.St.put) ap3 cp3 w':=by simpa using hp4
      have HPl:Hid (∀ j,j≤R.length→(P++[Hd]++(R.take j).map M.St.put).length=P.length+1+j):=fun j hj=>by simp;omega
      have HPs:Hid (∀ (j:Nat) (s:M.St),R[j]?=some s→P++[Hd]++(R.take (j+1)).map M.St.put=P++[Hd]++(R.take j).map M.St.put++[s.put]):=fun j s hj=>by rw [puts_vals_take hj];exact (List.append_assoc _ _ _).symm
      have HCat:Hid (M.cat (P++[Hd]++(R.take n).map M.St.put)=M.cat P++(M.headOf (R.take n)++M.puts (R.take n))):=by rw [M.cat_append,M.cat_append,M.cat_one,cat_puts,HHd2.out,List.append_assoc];exact rfl
      clear hp4 hp3
      go_wp2_with fail
      go_loopw [3,43] (fun p i wi=>∃ (j:Nat) (aj:Option Addr) (cj:Nat),j≤n∧i=.int .i64 j∧p=.slice aj (P.length+1+j) cj∧Parts w (P++[Hd]++(R.take j).map M.St.put) aj cj wi) (fun _ i _=>n-(intOf i).toNat)
      case atStart=>exact ⟨0,ap3,cp3,Nat.zero_le _,rfl,rfl,hp5⟩
      case round =>
       obtain ⟨j,aj,cj,hj,rfl,rfl,hpj⟩:=hrel
       have hjl:=HPl.out j (by omega)
       by_cases hjn:j<n
       ·have hgj:R[j]?=some R[j]:=List.getElem?_eq_getElem (by omega)
        obtain ⟨c0,c1,c2⟩:=hat.kept hgl hpj.below j _ hgj
        have HSj:Hid _:=HPs.out j _ hgj
        generalize R[j]=sj at *
        have hgj2:g<wr.heap.size:=by have:=hpj.below.size;omega
        have hown:=hpj.own
        have hsz:=hpj.below.size
        rw [hjl] at hown
        generalize P++[Hd]++(R.take j).map M.St.put=PP at *
        clear hgj hs1
        have hp6:=hpj.kept ((Q.refl wr).alloc #[.string sj.put,.int .i64 (sj.place:Int),.int .i64 (sj.size:Int)] 241)
        have hown6:=hp6.own
        rw [hjl] at hown6
        go_wp2_with (at_builtin;refine wpList_append_own _ rfl (.tmp 47) (.tmp 50) 63 rfl w.heap.size 9 i0 (.string ⟨#[]⟩) 1 16 Tryz.underlying63 hi hz0 hz1 hz2 rfl (by decide) _ _ _ rfl (hown6.alloc _) ⟨wr.heap.size+1,0,none⟩ 1 1 [.string sj.put] rfl rfl ?c1 ?c2 ?c3 ?c4 ?c5 ?_)
        case c1 =>
         intro i u hu
         have:=one_cell (wr.alloc (.cells #[.string sj.put,.int .i64 (sj.place:Int),.int .i64 (sj.size:Int)] 241)) (.string sj.put) 9 i u hu
         rw [World.size_alloc] at this
         exact this
        case c2=>exact one_str _
        case c3=>unfold maxLen;omega
        case c4=>omega
        case c5=>simp;omega
        intro v' w' hown' hgrow _
        obtain ⟨ap7,cp7,hv⟩:=own_form hown'
        rw [hv] at hown'
        rw [hv]
        rw [←hjl] at hown' hgrow
        have hp7:=hp6.push _ _ hgrow hown'
        clear hown' hgrow hown hown6 hv
        go_wp2_with fail
        go_roundw
        case rel=>exact ⟨j+1,ap7,cp7,by omega,by go_num,by simp;omega,by rw [HSj.out];exact hp7⟩
        case measure=>simp [intOf];omega
       ·obtain rfl:j=n:=by omega
        have hs2:=HS2.out
        have HWr:Hid _:=fun (_:Unit)=>HWn.out _ HCat.out hjl
        clear hs1
        go_wp2_with fail
        go_roundw
        case rel=>exact ⟨k+j,so2,sc-j,P++[Hd]++(R.take j).map M.St.put,aj,cj,by rw [show L.length-(k+j)=R.length-j by have:=HRk.out;omega],by have:=HRk.out;omega,by rw [←HRd.out];exact HST2.out (),by rw [hjl],hpj,HWr.out ()⟩
        case measure=>simp [sliceLen];omega
  ·obtain rfl:k=L.length:=by omega
   obtain ⟨hjl,hsaid⟩:=HJ.out P hw
   have JC:=join_any P ap cp wr (own_strs hp.own).2 hjl (by have:=hw.few;omega)
   have HJC:Hid _:=fun (_:Unit)=>JC
   have HQ:Hid _:=fun (_:Unit)=>hp.below
   have HSd:Hid _:=fun (_:Unit)=>hsaid
   clear JC hp hw hp0 hsaid hst
   rw [show L.length-L.length=0 by omega]
   go_wp2_with fail
   refine (HJC.out ()).mono ?_
   rintro e w3 ⟨rfl,q3⟩
   go_wp2_with fail
   go_ret
   exact ⟨_,HSd.out (),rfl,(Q.mk (HQ.out ())).trans q3⟩
def wordOf (y0 y1 y2 y3:Nat):Int:=bits BinOp.or .u32 (bits BinOp.or .u32 (bits BinOp.or .u32 (y0:Int) ((y1:Int)*256)) ((y2:Int)*65536)) ((y3:Int)*16777216)
def slotOf (n:Nat) (s:ByteArray):Nat:=(wordOf ((s.data.toList.getD 0 0).toNat) ((s.data.toList.getD 1 0).toNat) ((s.data.toList.getD 2 0).toNat) ((s.data.toList.getD 3 0).toNat)*2654435761 % 4294967296 / 2 ^ (32-n)).toNat
theorem slotOf_lt (n:Nat) (hn:n≤13) (s:ByteArray):slotOf n s<2 ^ n:=by
 unfold slotOf
 generalize wordOf _ _ _ _=X
 have h1:(X*2654435761 % 4294967296)<4294967296:=by omega
 have h0:0≤(X*2654435761 % 4294967296):=by omega
 generalize X*2654435761 % 4294967296=Y at *
 have hp:(2:Nat) ^ n*2 ^ (32-n)=4294967296:=by rw [←Nat.pow_add,show n+(32-n)=32 by omega]
 obtain ⟨y,rfl⟩:=Int.eq_ofNat_of_zero_le h0
 have e:((y:Int) / 2 ^ (32-n))=((y / 2 ^ (32-n):Nat):Int):=by push_cast;rfl
 rw [e,Int.toNat_natCast]
 exact Nat.div_lt_of_lt_mul (by rw [Nat.mul_comm,hp];omega)
theorem getD_at (s:ByteArray) (i:Nat) (h:i<s.size):s.data.toList.getD i 0=s[i]:=by
 rw [List.getD_eq_getElem?_getD,List.getElem?_eq_getElem (by simpa using h)];rfl
theorem slot_any (n:Nat) (hn:n≤13) (X:Nat) (s:ByteArray) (h4:4≤s.size) (w:World) (hX:w.cell? ⟨X,1,none⟩=some (.int .i64 (n:Int))):Calls Tryz.prog 198 #[.pointer (some ⟨X,0,none⟩),.string s] w fun e w'=>e=.returned (.int .i64 (slotOf n s:Int))∧Q w w':=by
 have i0:∀ W,(Instr.index 9 (.string s) (.int .i64 0)).run Tryz.prog W=.ok (.int .u8 ((s[0]).toNat:Int)) W:=index_str s 0 (by omega)
 have i1:∀ W,(Instr.index 9 (.string s) (.int .i64 1)).run Tryz.prog W=.ok (.int .u8 ((s[1]).toNat:Int)) W:=index_str s 1 (by omega)
 have i2:∀ W,(Instr.index 9 (.string s) (.int .i64 2)).run Tryz.prog W=.ok (.int .u8 ((s[2]).toNat:Int)) W:=index_str s 2 (by omega)
 have i3:∀ W,(Instr.index 9 (.string s) (.int .i64 3)).run Tryz.prog W=.ok (.int .u8 ((s[3]).toNat:Int)) W:=index_str s 3 (by omega)
 have l0:=(s[0]).toNat_lt
 have l1:=(s[1]).toNat_lt
 have l2:=(s[2]).toNat_lt
 have l3:=(s[3]).toNat_lt
 unfold slotOf
 rw [getD_at s 0 (by omega),getD_at s 1 (by omega),getD_at s 2 (by omega),getD_at s 3 (by omega)]
 generalize (s[0]).toNat=y0 at *
 generalize (s[1]).toNat=y1 at *
 generalize (s[2]).toNat=y2 at *
 generalize (s[3]).toNat=y3 at *
 have e:∀ X:Int,wrap64 (X*2654435761 % 4294967296 / 2 ^ (32-n))=(((X*2654435761 % 4294967296 / 2 ^ (32-n)).toNat:Nat):Int):=fun X=>by
  have h1:(X*2654435761 % 4294967296)<4294967296:=by omega
  have h0:0≤(X*2654435761 % 4294967296):=by omega
  generalize X*2654435761 % 4294967296=Y at *
  obtain ⟨y,rfl⟩:=Int.eq_ofNat_of_zero_le h0
  have e:((y:Int) / 2 ^ (32-n))=((y / 2 ^ (32-n):Nat):Int):=by push_cast;rfl
  rw [e,Int.toNat_natCast]
  have hle:=Nat.div_le_self y (2 ^ (32-n))
  generalize y / 2 ^ (32-n)=z at *
  unfold wrap64
  omega
 have E:Hid _:=e
 clear e
 unfold wordOf
 go_enter Tryz.func198,Tryz.ntmps198
 go_wp2_with fail
 go_quiet (fail)
 go_wp2_with fail
 go_ret
 exact ⟨congrArg Ending.returned (congrArg (Value.int IntKind.i64) (E.out _)),(Q.refl w).drewN _⟩
theorem take_snoc_eq {a b:List UInt8} {n:Nat} (h:a.take n=b.take n) (he:a[n]?=b[n]?):a.take (n+1)=b.take (n+1):=by
 rw [List.take_add_one,List.take_add_one,h,he]
theorem sameBegin_any (a b:ByteArray) (ha:a.size≤140737488351232) (hb:b.size≤140737488351232) (w:World) :
  Calls Tryz.prog 171 #[.string a,.string b] w fun e w'=>∃ n:Nat,e=.returned (.int .i64 (n:Int))∧(n≤a.size∧n≤b.size∧a.data.toList.take n=b.data.toList.take n∧(a=b→n=a.size))∧Q w w':=by
 have IA:Hid _:=index_str a
 have IB:Hid _:=index_str b
 go_enter Tryz.func171,Tryz.ntmps171
 go_wp2_with fail
 go_loopw [5] (fun t wr=>∃ n:Nat,t=.int .i64 (n:Int)∧n≤a.size∧n≤b.size∧Hid (a.data.toList.take n=b.data.toList.take n)∧Q w wr) (fun t _=>a.size-(intOf t).toNat)
 case atStart=>exact ⟨0,rfl,Nat.zero_le _,Nat.zero_le _,(by simp:a.data.toList.take 0=b.data.toList.take 0),Q.refl w⟩
 case round =>
  obtain ⟨n,rfl,hna,hnb,htk,hq⟩:=hrel
  by_cases hlt:n<a.size∧n<b.size
  ·obtain ⟨h1,h2⟩:=hlt
   have xa:=IA.out n h1
   have xb:=IB.out n h2
   have hd:decide ((n:Int)<min (a.size:Int) (b.size:Int))=true:=by simp;omega
   have hd2:(n:Int)<min (a.size:Int) (b.size:Int):=by omega
   have la:a.data.toList[n]?=some a[n]:=by rw [List.getElem?_eq_getElem (by simpa using h1)];rfl
   have lb:b.data.toList[n]?=some b[n]:=by rw [List.getElem?_eq_getElem (by simpa using h2)];rfl
   by_cases heq:a[n]=b[n]
   ·have HT:Hid (a.data.toList.take (n+1)=b.data.toList.take (n+1)):=take_snoc_eq htk.out (by rw [la,lb,heq])
    have he:(((a[n]).toNat:Int) == ((b[n]).toNat:Int))=true:=by rw [heq];simp
    generalize (a[n]).toNat=x at *
    generalize (b[n]).toNat=y at *
    clear la lb heq
    go_wp2_with fail
    go_quiet (fail)
    go_wp2_with fail
    go_roundw
    case rel=>exact ⟨n+1,by go_num,by omega,by omega,HT,hq.drewN _⟩
    case measure=>simp [intOf];omega
   ·have he:(((a[n]).toNat:Int) == ((b[n]).toNat:Int))=false:=by
     rw [beq_eq_false_iff_ne]
     intro e
     exact heq (UInt8.toNat_inj.1 (by omega))
    have HN:Hid (a=b→n=a.size):=fun e=>by subst e;exact absurd rfl heq
    generalize (a[n]).toNat=x at *
    generalize (b[n]).toNat=y at *
    clear la lb heq
    go_wp2_with fail
    go_quiet (fail)
    go_wp2_with fail
    go_ret
    exact ⟨n,rfl,⟨hna,hnb,htk.out,HN.out⟩,hq.drewN _⟩
  ·have hd:decide ((n:Int)<min (a.size:Int) (b.size:Int))=false:=by simp;omega
   have HN:Hid (a=b→n=a.size):=fun e=>by subst e;omega
   go_wp2_with fail
   go_quiet (fail)
   go_wp2_with fail
   go_ret
   exact ⟨n,rfl,⟨hna,hnb,htk.out,HN.out⟩,hq.drewN _⟩
theorem drop_cons_eq {a b:List UInt8} {n:Nat} (ha:n<a.length) (hb:n<b.length) (h:a.drop (a.length-n)=b.drop (b.length-n)) (he:a[a.length-1-n]?=b[b.length-1-n]?):a.drop (a.length-(n+1))=b.drop (b.length-(n+1)):=by
 have e1:a.length-(n+1)=a.length-1-n:=by omega
 have e2:b.length-(n+1)=b.length-1-n:=by omega
 have d1:a.drop (a.length-1-n)=a[a.length-1-n]'(by omega)::a.drop (a.length-n):=by rw [List.drop_eq_getElem_cons (by omega)];congr 2;omega
 have d2:b.drop (b.length-1-n)=b[b.length-1-n]'(by omega)::b.drop (b.length-n):=by rw [List.drop_eq_getElem_cons (by omega)];congr 2;omega
 rw [List.getElem?_eq_getElem (by omega),List.getElem?_eq_getElem (by omega),Option.some.injEq] at he
 rw [e1,e2,d1,d2,h,he]
theorem sameEnd_any (a b:ByteArray) (ha:a.size≤140737488351232) (hb:b.size≤140737488351232) (w:World) :
  Calls Tryz.prog 199 #[.string a,.string b] w fun e w'=>∃ n:Nat,e=.returned (.int .i64 (n:Int))∧(n≤a.size∧n≤b.size∧a.data.toList.drop (a.size-n)=b.data.toList.drop (b.size-n))∧Q w w':=by
 have IA:Hid _:=index_str a
 have IB:Hid _:=index_str b
 have lla:a.data.toList.length=a.size:=by simp
 have llb:b.data.toList.length=b.size:=by simp
 have HA:Hid _:=lla
 have HB:Hid _:=llb
 have H0:Hid (a.data.toList.drop (a.size-0)=b.data.toList.drop (b.size-0)):=by
  rw [List.drop_of_length_le (by omega),List.drop_of_length_le (by omega)];exact rfl
 clear lla llb
 go_enter Tryz.func199,Tryz.ntmps199
 go_wp2_with fail
 go_loopw [5] (fun t wr=>∃ n:Nat,t=.int .i64 (n:Int)∧n≤a.size∧n≤b.size∧Hid (a.data.toList.drop (a.size-n)=b.data.toList.drop (b.size-n))∧Q w wr) (fun t _=>a.size-(intOf t).toNat)
 case atStart=>exact ⟨0,rfl,Nat.zero_le _,Nat.zero_le _,H0,Q.refl w⟩
 case round =>
  obtain ⟨n,rfl,hna,hnb,htk,hq⟩:=hrel
  by_cases hlt:n<a.size∧n<b.size
  ·obtain ⟨h1,h2⟩:=hlt
   obtain ⟨i,hi⟩:∃ i,i=a.size-1-n:=⟨_,rfl⟩
   obtain ⟨j,hj⟩:∃ j,j=b.size-1-n:=⟨_,rfl⟩
   have hil:i<a.size:=by omega
   have hjl:j<b.size:=by omega
   have xa:=IA.out i hil
   have xb:=IB.out j hjl
   have u1:IntKind.i64.wrap ((a.size:Int)-1)=(a.size:Int)-1:=by rw [IntKind.wrap_i64];omega
   have u2:IntKind.i64.wrap ((b.size:Int)-1)=(b.size:Int)-1:=by rw [IntKind.wrap_i64];omega
   have u3:IntKind.i64.wrap ((a.size:Int)-1-(n:Int))=(i:Int):=by rw [IntKind.wrap_i64];omega
   have u4:IntKind.i64.wrap ((b.size:Int)-1-(n:Int))=(j:Int):=by rw [IntKind.wrap_i64];omega
   have hd:decide ((n:Int)<min (a.size:Int) (b.size:Int))=true:=by simp;omega
   have hd2:(n:Int)<min (a.size:Int) (b.size:Int):=by omega
   have la:a.data.toList[i]?=some a[i]:=by rw [List.getElem?_eq_getElem (by simpa using hil)];rfl
   have lb:b.data.toList[j]?=some b[j]:=by rw [List.getElem?_eq_getElem (by simpa using hjl)];rfl
   by_cases heq:a[i]=b[j]
   ·have HT:Hid (a.data.toList.drop (a.size-(n+1))=b.data.toList.drop (b.size-(n+1))):=by
     have:=drop_cons_eq (a:=a.data.toList) (b:=b.data.toList) (n:=n) (by rw [HA.out];exact h1) (by rw [HB.out];exact h2) (by rw [HA.out,HB.out];exact htk.out) (by rw [HA.out,HB.out,←hi,←hj,la,lb,heq])
     rw [HA.out,HB.out] at this
     exact this
    have he:(((a[i]).toNat:Int) == ((b[j]).toNat:Int))=true:=by rw [heq];simp
    generalize (a[i]).toNat=x at *
    generalize (b[j]).toNat=y at *
    clear la lb heq hi hj
    go_wp2_with fail
    go_quiet (fail)
    go_wp2_with fail
    go_roundw
    case rel=>exact ⟨n+1,by go_num,by omega,by omega,HT,hq.drewN _⟩
    case measure=>simp [intOf];omega
   ·have he:(((a[i]).toNat:Int) == ((b[j]).toNat:Int))=false:=by
     rw [beq_eq_false_iff_ne]
     intro e
     exact heq (UInt8.toNat_inj.1 (by omega))
    generalize (a[i]).toNat=x at *
    generalize (b[j]).toNat=y at *
    clear la lb heq hi hj
    go_wp2_with fail
    go_quiet (fail)
    go_wp2_with fail
    go_ret
    exact ⟨n,rfl,⟨hna,hnb,htk.out⟩,hq.drewN _⟩
  ·have hd:decide ((n:Int)<min (a.size:Int) (b.size:Int))=false:=by simp;omega
   go_wp2_with fail
   go_quiet (fail)
   go_wp2_with fail
   go_ret
   exact ⟨n,rfl,⟨hna,hnb,htk.out⟩,hq.drewN _⟩
def putsOf (s:ByteArray):List M.St:=if s.size=0 then [] else [⟨s,0,s.size⟩]
theorem steps_built (w:World) (s:M.St) (t:TypeId):Steps (w.alloc (.cells #[.string s.put,.int .i64 (s.place:Int),.int .i64 (s.size:Int)] t)) (some ⟨w.heap.size,0,none⟩) [s]:=
 Or.inr ⟨w.heap.size,0,rfl,by simp,StAt.of_cells fun j u hu=>by
  rw [cellsOf_one] at hu
  have:=cells_at w s t j u hu
  have hx:(⟨w.heap.size,0,none⟩:Addr).add j=⟨w.heap.size,0+j,none⟩:=by unfold Addr.add;split<;>simp_all
  rw [hx] at this
  exact this⟩
theorem putSteps_any (s:ByteArray) (w:World) :
  Calls Tryz.prog 188 #[.string s] w fun e w'=>∃ (ao:Option Addr) (cap:Nat),e=.returned (.slice ao (putsOf s).length cap)∧(Steps w' ao (putsOf s)∧(putsOf s=[]→ao=none∧cap=0))∧Q w w':=by
 have PS:Hid _:=putStep_any s
 by_cases h0:s.size=0
 ·have E:putsOf s=[]:=by unfold putsOf;rw [if_pos h0]
  have hne:(s.toList == [])=true:=by
   rw [ByteArray.toList_eq,beq_iff_eq]
   exact List.eq_nil_of_length_eq_zero (by simpa using h0)
  rw [E]
  clear E
  go_enter Tryz.func188,Tryz.ntmps188
  go_wp2_with fail
  go_ret
  exact ⟨none,0,rfl,⟨Or.inl rfl,fun _=>⟨rfl,rfl⟩⟩,Q.refl w⟩
 ·have E:putsOf s=[⟨s,0,s.size⟩]:=by unfold putsOf;rw [if_neg h0]
  have hne:(s.toList == [])=false:=by
   rw [ByteArray.toList_eq,beq_eq_false_iff_ne]
   intro e
   exact h0 (by simpa using congrArg List.length e)
  rw [E]
  clear E
  go_enter Tryz.func188,Tryz.ntmps188
  go_wp2_with fail
  refine (PS.out _).mono ?_
  rintro e w1 ⟨rfl,q1⟩
  go_wp2_with fail
  go_ret
  exact ⟨some ⟨w1.heap.size,0,none⟩,1,rfl,⟨steps_built w1 ⟨s,0,s.size⟩ _,fun h=>by simp at h⟩,q1.alloc _ _⟩
structure Words (w:World) (X F N:Nat) (b:ByteArray) (n m:Nat) (f g:Nat→Nat):Prop where
 c0:w.cell? ⟨X,0,none⟩=some (.string b)
 c1:w.cell? ⟨X,1,none⟩=some (.int .i64 (n:Int))
 c2:w.cell? ⟨X,2,none⟩=some (.slice (some ⟨F,0,none⟩) m m)
 c3:w.cell? ⟨X,3,none⟩=some (.slice (some ⟨N,0,none⟩) b.size b.size)
 cf:∀ i,i<m→w.cell? ⟨F,i,none⟩=some (.int .u16 (f i:Int))
 cg:∀ j,j<b.size→w.cell? ⟨N,j,none⟩=some (.int .u16 (g j:Int))
 bf:∀ i,f i≤b.size
 bg:∀ j,g j≤b.size
theorem Words.kept {w w':World} {X F N n m:Nat} {b:ByteArray} {f g:Nat→Nat} (h:Words w X F N b n m f g) (q:Q w w'):Words w' X F N b n m f g:=
 ⟨kept_cell h.c0 q,kept_cell h.c1 q,kept_cell h.c2 q,kept_cell h.c3 q,fun i hi=>kept_cell (h.cf i hi) q,fun j hj=>kept_cell (h.cg j hj) q,h.bf,h.bg⟩
structure Laying (w0 w:World) (X F N:Nat) (b:ByteArray) (n m:Nat) (f g:Nat→Nat):Prop where
 words:Words w X F N b n m f g
 below:Below w0.heap.size w0 w
 low:w0.heap.size≤F∧w0.heap.size≤N
 ne:F≠N∧F≠X∧N≠X
 top:F<w.heap.size∧N<w.heap.size
 ff:∀ j,w.frozen? ⟨F,j,none⟩=false
 fn:∀ j,w.frozen? ⟨N,j,none⟩=false
theorem cell_lt {w:World} {p:Addr} {v:Value} (h:w.cell? p=some v):p.block<w.heap.size:=by
 rcases Nat.lt_or_ge p.block w.heap.size with hl|hl
 ·exact hl
 ·unfold World.cell? at h
  rw [Array.getElem?_eq_none hl] at h
  simp at h
theorem Laying.kept {w0 w w':World} {X F N n m:Nat} {b:ByteArray} {f g:Nat→Nat} (h:Laying w0 w X F N b n m f g) (q:Q w w'):Laying w0 w' X F N b n m f g:=
 ⟨h.words.kept q,h.below.trans (q.below.mono h.below.size),h.low,h.ne,⟨Nat.lt_of_lt_of_le h.top.1 q.below.size,Nat.lt_of_lt_of_le h.top.2 q.below.size⟩,fun j=>(q.below.frozen (p:=⟨F,j,none⟩) h.top.1).trans (h.ff j),fun j=>(q.below.frozen (p:=⟨N,j,none⟩) h.top.2).trans (h.fn j)⟩
theorem Laying.setNext {w0 w:World} {X F N n m:Nat} {b:ByteArray} {f g:Nat→Nat} (h:Laying w0 w X F N b n m f g) (p v:Nat) (hp:p<b.size) (hv:v≤b.size):Laying w0 (w.setCell ⟨N,p,none⟩ (.int .u16 (v:Int))) X F N b n m f (fun j=>if j=p then v else g j):=by
 have hne:=h.ne
 have ox:∀ Y j,Y≠N→(w.setCell ⟨N,p,none⟩ (.int .u16 (v:Int))).cell? ⟨Y,j,none⟩=w.cell? ⟨Y,j,none⟩:=fun Y j hY=>World.cell?_setCell_other _ _ _ _ (by intro e;injection e;omega)
 refine ⟨⟨(ox X 0 (Ne.symm hne.2.2)).trans h.words.c0,(ox X 1 (Ne.symm hne.2.2)).trans h.words.c1,(ox X 2 (Ne.symm hne.2.2)).trans h.words.c2,(ox X 3 (Ne.symm hne.2.2)).trans h.words.c3,fun i hi=>(ox F i hne.1).trans (h.words.cf i hi),fun j hj=>?_,h.words.bf,fun j=>?_⟩,h.below.setCell h.low.2 _,h.low,hne,by simpa using h.top,fun j=>by rw [World.frozen?_setCell];exact h.ff j,fun j=>by rw [World.frozen?_setCell];exact h.fn j⟩
 ·by_cases e:j=p
  ·subst e;rw [World.cell?_setCell_same _ _ _ (h.words.cg j hj)];simp
  ·rw [World.cell?_setCell_other _ _ _ _ (by intro e2;injection e2;omega),h.words.cg j hj];simp [e]
 ·show (if j=p then v else g j)≤b.size;split
  ·exact hv
  ·exact h.words.bg j
theorem Laying.setFirst {w0 w:World} {X F N n m:Nat} {b:ByteArray} {f g:Nat→Nat} (h:Laying w0 w X F N b n m f g) (i v:Nat) (hi:i<m) (hv:v≤b.size):Laying w0 (w.setCell ⟨F,i,none⟩ (.int .u16 (v:Int))) X F N b n m (fun j=>if j=i then v else f j) g:=by
 have hne:=h.ne
 have ox:∀ Y j,Y≠F→(w.setCell ⟨F,i,none⟩ (.int .u16 (v:Int))).cell? ⟨Y,j,none⟩=w.cell? ⟨Y,j,none⟩:=fun Y j hY=>World.cell?_setCell_other _ _ _ _ (by intro e;injection e;omega)
 refine ⟨⟨(ox X 0 (Ne.symm hne.2.1)).trans h.words.c0,(ox X 1 (Ne.symm hne.2.1)).trans h.words.c1,(ox X 2 (Ne.symm hne.2.1)).trans h.words.c2,(ox X 3 (Ne.symm hne.2.1)).trans h.words.c3,fun j hj=>?_,fun j hj=>(ox N j (Ne.symm hne.1)).trans (h.words.cg j hj),fun j=>?_,h.words.bg⟩,h.below.setCell h.low.1 _,h.low,hne,by simpa using h.top,fun j=>by rw [World.frozen?_setCell];exact h.ff j,fun j=>by rw [World.frozen?_setCell];exact h.fn j⟩
 ·by_cases e:j=i
  ·subst e;rw [World.cell?_setCell_same _ _ _ (h.words.cf j hj)];simp
  ·rw [World.cell?_setCell_other _ _ _ _ (by intro e2;injection e2;omega),h.words.cf j hj];simp [e]
 ·show (if j=i then v else f j)≤b.size;split
  ·exact hv
  ·exact h.words.bf j
theorem worth_any (t:M.St) (hp:t.put=⟨#[]⟩) (hs:t.size≤4096) (hpl:t.place+t.size≤72057594037927935) (w:World) :
  Calls Tryz.prog 187 #[.agg #[.string ⟨#[]⟩,.int .i64 (t.place:Int),.int .i64 (t.size:Int)]] w fun e w'=>e=.returned (.bool (decide (t.cost+2≤t.size)))∧Q w w':=by
 have hz:t.put.size=0:=by rw [hp];rfl
 by_cases h0:t.size=0
 ·have E:decide (t.cost+2≤t.size)=false:=by simp;omega
  rw [E]
  have hd:decide ((0:Int)<(t.size:Int))=false:=by simp;omega
  have hd2:(t.size:Int)=0:=by omega
  clear E hs hpl
  rw [hd2]
  clear hd hd2
  go_enter Tryz.func187,Tryz.ntmps187
  go_wp2_with fail
  go_quiet (fail)
  go_wp2_with fail
  go_ret
  exact ⟨rfl,((Q.refl w).alloc _ _).drewN _⟩
 ·have hg:M.Goods [t]:=M.Goods.one (Or.inl ⟨hz,by omega,hs,hpl⟩)
  have hto:M.tot [t]≤4096:=by rw [M.tot_one];exact hs
  have hh:(M.headOf [t]).length=t.cost:=by
   have e:M.headOf [t]=M.enc 7 (2*M.tot [t]+1)++M.enc 7 t.place:=if_pos hz
   rw [e,M.tot_one,List.length_append]
   unfold M.St.cost
   rw [if_pos hz]
  have hsb:=steps_built (w.alloc (.cells #[.string ⟨#[]⟩,.int .i64 (t.place:Int),.int .i64 (t.size:Int)] 241)).drew t 241
  rw [hp,show (w.alloc (.cells #[.string ⟨#[]⟩,.int .i64 (t.place:Int),.int .i64 (t.size:Int)] 241)).drew.heap.size=w.heap.size+1 by simp] at hsb
  have HC:Hid (∀ _:Unit,Calls Tryz.prog 184 #[.slice (some ⟨w.heap.size+1,0,none⟩) 1 1] ((w.alloc (.cells #[.string ⟨#[]⟩,.int .i64 (t.place:Int),.int .i64 (t.size:Int)] 241)).drew.alloc (.cells #[.string ⟨#[]⟩,.int .i64 (t.place:Int),.int .i64 (t.size:Int)] 241)) fun e w'=>e=.returned (.string ⟨(M.headOf [t]).toArray⟩)∧Q ((w.alloc (.cells #[.string ⟨#[]⟩,.int .i64 (t.place:Int),.int .i64 (t.size:Int)] 241)).drew.alloc (.cells #[.string ⟨#[]⟩,.int .i64 (t.place:Int),.int .i64 (t.size:Int)] 241)) w'):=fun _=>head_any t [] (some ⟨w.heap.size+1,0,none⟩) 1 _ hsb hto hg
  clear hsb
  have hcl:=M.enc_len t.place
  have hc2:=M.enc_two (n:=2*t.size+1) (by omega)
  have hcb:t.cost≤10:=by unfold M.St.cost;rw [if_pos hz];omega
  have hhs:(⟨(M.headOf [t]).toArray⟩:ByteArray).size=t.cost:=by rw [←hh];rfl
  have hw1:IntKind.i64.wrap ((t.cost:Int)+2)=(t.cost:Int)+2:=by rw [IntKind.wrap_i64];omega
  have hle:decide ((t.cost:Int)+2≤(t.size:Int))=decide (t.cost+2≤t.size):=by rw [decide_eq_decide];omega
  have HLe:Hid _:=hle
  have hd:decide ((0:Int)<(t.size:Int))=true:=by simp;omega
  have hd2:(0:Int)<(t.size:Int):=by omega
  have hd3:0<t.size:=by omega
  generalize (⟨(M.headOf [t]).toArray⟩:ByteArray)=Hd at *
  generalize t.cost=cc at *
  have x2:(w.alloc (.cells #[.string ⟨#[]⟩,.int .i64 (t.place:Int),.int .i64 (t.size:Int)] 241)).cell? ⟨w.heap.size,2,none⟩=some (.int .i64 (t.size:Int)):=by simp
  have x1:(w.alloc (.cells #[.string ⟨#[]⟩,.int .i64 (t.place:Int),.int .i64 (t.size:Int)] 241)).cell? ⟨w.heap.size,1,none⟩=some (.int .i64 (t.place:Int)):=by simp
  have x0:(w.alloc (.cells #[.string ⟨#[]⟩,.int .i64 (t.place:Int),.int .i64 (t.size:Int)] 241)).cell? ⟨w.heap.size,0,none⟩=some (.string ⟨#[]⟩):=by simp
  clear hle hh hg hto hcl hc2
  go_enter Tryz.func187,Tryz.ntmps187
  go_upto_region 1 with fail
  go_region_held3 (fun w'=>w'.cell? ⟨w.heap.size,0,none⟩=some (.string ⟨#[]⟩)∧w'.cell? ⟨w.heap.size,1,none⟩=some (.int .i64 (t.place:Int))∧w'.cell? ⟨w.heap.size,2,none⟩=some (.int .i64 (t.size:Int)))
   (first | exact ⟨x0,x1,x2⟩ | exact hS5 | (exact ⟨kept_cell x0 ((Q.refl _).drew.alloc _ _),kept_cell x1 ((Q.refl _).drew.alloc _ _),kept_cell x2 ((Q.refl _).drew.alloc _ _)⟩))
   (first | (go_at_call 184;refine (HC.out ()).mono ?_;rintro e w5 ⟨rfl,q5⟩;have hS5:w5.cell? ⟨w.heap.size,0,none⟩=some (.string ⟨#[]⟩)∧w5.cell? ⟨w.heap.size,1,none⟩=some (.int .i64 (t.place:Int))∧w5.cell? ⟨w.heap.size,2,none⟩=some (.int .i64 (t.size:Int)):=⟨kept_cell x0 (((Q.refl _).drew.alloc _ _).trans q5),kept_cell x1 (((Q.refl _).drew.alloc _ _).trans q5),kept_cell x2 (((Q.refl _).drew.alloc _ _).trans q5)⟩))
  go_wp2_with fail
  go_ret
  exact ⟨by rw [←HLe.out];rfl,(((Q.refl w).alloc _ _).trans ((Q.refl _).drew.alloc _ _)).trans q5⟩
theorem read_none (s:ByteArray) (hs:s.size≤140737488351232) (h0:M.getAt s.data.toList 0=none) (w:World) :
  Calls Tryz.prog 156 #[.string s] w (RdNo w):=by
 have G:Hid _:=get_none s 0 hs h0
 rw [show ((0:Nat):Int)=0 from rfl] at G
 clear h0
 go_enter Tryz.func156,Tryz.ntmps156
 go_wp2_with fail
 refine (G.out _).mono ?_
 rintro e w1 ⟨rfl,rfl⟩
 go_wp2_with fail
 refine bodyPost_ret (v:=.tuple #[.agg #[.slice none 0 0,.slice none 0 0],.bool false]) (by simp [results,Tryz.results156,go_sem]) rfl ?_
 exact ⟨none,none,0,0,0,0,rfl,(Q.refl w).alloc _ _⟩
theorem read_long (s:ByteArray) (hs:s.size≤140737488351232) (size a0:Nat) (h0:M.getAt s.data.toList 0=some (size,a0)) (hsz:4096<size) (w:World) :
  Calls Tryz.prog 156 #[.string s] w (RdNo w):=by
 have hb0:=M.getAt_bound h0
 have G:Hid _:=get_some s 0 size a0 hs h0
 rw [show ((0:Nat):Int)=0 from rfl] at G
 have t1:decide ((4096:Int)<(size:Int))=true:=by simp;omega
 clear h0
 go_enter Tryz.func156,Tryz.ntmps156
 go_wp2_with fail
 refine (G.out _).mono ?_
 rintro e w1 ⟨rfl,rfl⟩
 go_wp2_with fail
 refine bodyPost_ret (v:=.tuple #[.agg #[.slice none 0 0,.slice none 0 0],.bool false]) (by simp [results,Tryz.results156,go_sem]) rfl ?_
 exact ⟨none,none,0,0,0,0,rfl,(Q.refl w).alloc _ _⟩
theorem read_no (s:ByteArray) (hs:s.size≤140737488351232) (hp:M.parse s.data.toList=none) (w:World):Calls Tryz.prog 156 #[.string s] w (RdNo w):=by
 unfold M.parse at hp
 cases hg:M.getAt s.data.toList 0 with
 | none=>exact read_none s hs hg w
 | some p =>
  obtain ⟨size,a⟩:=p
  rw [hg] at hp
  simp only at hp
  by_cases hl:4096<size
  ·exact read_long s hs size a hg hl w
  ·rw [if_neg hl] at hp
   have h:=read_some s hs size a hg hl w
   cases hr:M.stepsAt s.data.toList size (s.data.toList.length+1) a [] with
   | none=>rw [hr] at h;exact h
   | some acc =>
    rw [hr] at h hp
    simp only at hp
    split at hp
    ·simp at hp
    ·rename_i hne
     simp only [RdEnd,if_neg hne] at h
     exact h
theorem read_yes (s:ByteArray) (hs:s.size≤140737488351232) (size:Nat) (acc:List Nat) (hp:M.parse s.data.toList=some (size,acc)) (w:World):Calls Tryz.prog 156 #[.string s] w (RdYes acc w):=by
 unfold M.parse at hp
 cases hg:M.getAt s.data.toList 0 with
 | none=>rw [hg] at hp;simp at hp
 | some p =>
  obtain ⟨sz,a⟩:=p
  rw [hg] at hp
  simp only at hp
  by_cases hl:4096<sz
  ·rw [if_pos hl] at hp;simp at hp
  ·rw [if_neg hl] at hp
   have h:=read_some s hs sz a hg hl w
   cases hr:M.stepsAt s.data.toList sz (s.data.toList.length+1) a [] with
   | none=>rw [hr] at hp;simp at hp
   | some ac =>
    rw [hr] at h hp
    simp only at hp
    split at hp
    ·rename_i he
     simp only [Option.some.injEq,Prod.mk.injEq] at hp
     obtain ⟨rfl,rfl⟩:=hp
     simp only [RdEnd,if_pos he] at h
     exact h
    ·simp at hp
theorem apply_no (c b:ByteArray) (hc:c.size≤140737488351232) (hp:M.parse c.data.toList=none) (w:World) :
  Calls Tryz.prog 126 #[.string c,.string b] w fun e w'=>e=.returned (.tuple #[.string ⟨#[]⟩,.int .i64 5])∧Q w w':=by
 have R:Hid _:=read_no c hc hp
 clear hp
 go_enter Tryz.func126,Tryz.ntmps126
 go_wp2_with fail
 refine (R.out _).mono ?_
 rintro e w1 ⟨so,eo,n,m,sc,ec,rfl,q1⟩
 go_wp2_with fail
 go_ret2
 exact ⟨rfl,q1.alloc _ _⟩
theorem apply_yes (c b:ByteArray) (hc:c.size≤140737488351232) (hb:b.size≤140737488351232) (size:Nat) (acc:List Nat) (hp:M.parse c.data.toList=some (size,acc)) (w:World) :
  Calls Tryz.prog 126 #[.string c,.string b] w fun e w'=>e=appliedEnd (if b.size<M.reach acc then none else some (M.made acc b.data.toList))∧Q w w':=by
 have R:Hid _:=read_yes c hc size acc hp
 obtain ⟨hlen,hsz,hfit⟩:=M.parse_bound hp
 have hrf:=M.reach_fit hfit
 clear hp
 by_cases hfar:b.size<M.reach acc
 ·rw [if_pos hfar]
  go_enter Tryz.func126,Tryz.ntmps126
  go_wp2_with fail
  refine (R.out _).mono ?_
  rintro e w1 ⟨L,so,eo,sc,ec,rfl,⟨hg,rfl⟩,hst,hen,q1⟩
  have hft:=M.flat_length hg
  have hll:=M.length_le_tot hg
  have RH:Hid _:=fun (_:Unit)=>reachS_any L so sc _ (hst.kept ((Q.refl w1).alloc #[.slice so L.length sc,.slice eo L.length ec] 215)) (by omega) hg
  clear hst hen
  go_wp2_with fail
  refine (RH.out ()).mono ?_
  rintro e w2 ⟨rfl,q2⟩
  go_wp2_with fail
  go_ret2
  exact ⟨rfl,(q1.alloc _ _).trans q2⟩
 ·rw [if_neg hfar]
  go_enter Tryz.func126,Tryz.ntmps126
  go_wp2_with fail
  refine (R.out _).mono ?_
  rintro e w1 ⟨L,so,eo,sc,ec,rfl,⟨hg,rfl⟩,hst,hen,q1⟩
  have hft:=M.flat_length hg
  have hll:=M.length_le_tot hg
  have RH:Hid _:=fun (_:Unit)=>reachS_any L so sc _ (hst.kept ((Q.refl w1).alloc #[.slice so L.length sc,.slice eo L.length ec] 215)) (by omega) hg
  have TX:Hid (∀ w',Q (w1.alloc (.cells #[.slice so L.length sc,.slice eo L.length ec] 215)) w'→Calls Tryz.prog 158 #[.string b,.slice so L.length sc] w' fun e w''=>e=.returned (.string ⟨(M.made (M.flat L) b.data.toList).toArray⟩)∧Q w' w''):=
   fun w' q=>text_any b L so sc w' ((hst.kept ((Q.refl w1).alloc _ _)).kept q) hb (by omega) hg (by omega)
  clear hst hen
  go_wp2_with fail
  refine (RH.out ()).mono ?_
  rintro e w2 ⟨rfl,q2⟩
  obtain ⟨⟨x0,x1⟩,_⟩:=new2 q2
  go_wp2_with fail
  refine (TX.out _ q2).mono ?_
  rintro e w3 ⟨rfl,q3⟩
  go_wp2_with fail
  go_ret2
  exact ⟨rfl,((q1.alloc _ _).trans q2).trans q3⟩
theorem apply_any (c b:ByteArray) (hc:c.size≤140737488351232) (hb:b.size≤140737488351232) (w:World) :
  Calls Tryz.prog 126 #[.string c,.string b] w fun e w'=>e=appliedEnd (applied (M.parse c.data.toList) b.data.toList)∧Q w w':=by
 cases hp:M.parse c.data.toList with
 | none=>exact apply_no c b hc hp w
 | some p =>
  obtain ⟨size,acc⟩:=p
  have hbl:b.data.toList.length=b.size:=by simp
  simp only [applied,hbl]
  exact apply_yes c b hc hb size acc hp w
end Go.Proofs.YtekdenkllipehabGreatDoor
