import Derived.Test.YtekdenkllipehabGreatDoorK22
import Derived.Test.YtekdenkllipehabGreatDoorK24
import Derived.Test.YtekdenkllipehabGreatDoorK35
set_option maxRecDepth 100000
set_option maxHeartbeats 8000000
namespace Go.Proofs.YtekdenkllipehabGreatDoor
open Go.RowKit Go.Shelf
attribute [local go_sem] Oper.semAt_some
def sumOf (fs:List M.Fil) (l:List (Fin fs.length)):Nat:=(l.map fun x=>fs[x.1].bytes.length).sum
theorem sumOf_snoc (fs:List M.Fil) (l:List (Fin fs.length)) (x:Fin fs.length):sumOf fs (l++[x])=sumOf fs l+fs[x.1].bytes.length:=by simp [sumOf]
theorem sumOf_all (fs:List M.Fil):sumOf fs (List.finRange fs.length)=M.total fs:=by
 unfold sumOf M.total
 congr 1
 apply List.ext_getElem (by simp)
 intro i h1 h2
 simp
theorem sumOf_le (fs:List M.Fil) (B:Nat) (hB:∀ f∈fs,f.bytes.length≤B):∀ l:List (Fin fs.length),sumOf fs l≤l.length*B
 | []=>by simp [sumOf]
 | x::l=>by
  have h1:=sumOf_le fs B hB l
  have h2:=hB _ (List.getElem_mem x.2)
  have h3:sumOf fs (x::l)=fs[x.1].bytes.length+sumOf fs l:=by simp [sumOf]
  rw [h3,List.length_cons,Nat.add_mul]
  omega
theorem boxed_set {W:World} {B:Nat} {v:Value} {t:TypeId} (v':Value) (h:W.heap[B]?=some (.cells #[v] t (0,0))):(W.setCell ⟨B,0,none⟩ v').heap[B]?=some (.cells #[v'] t (0,0)):=by
 have:=heap_setCell_same W B 0 #[v] t v' h
 simpa using this
theorem diskSize (tg:Tags) (o d:Nat) (D:M.Dsk) (ids ps:List Nat) (hD:D.Fine) (w:World) (h:LDiskAt w tg o d D ids ps) :
  Calls Tryz.prog 16 #[.pointer (some ⟨d,0,none⟩)] w fun e w'=>e=.returned (.int .i64 (M.total D.files:Nat))∧Q w w':=by
 have hl:=hD.good.few
 refine (callsIn_wide (n:=6)).1 ?_
 refine callsIn_of_wp_marks Tryz.func16 rfl trivial ?_ rfl
 simp only [Tryz.ntmps16,List.size_toArray,List.length_cons,List.length_nil,Nat.reduceAdd,Nat.reduceSub,Array.replicate_succ,Array.replicate_zero,List.push_toArray,List.append_toArray,List.nil_append,List.cons_append]
 gi_wp2_with (refine ⟨trivial,?_⟩;refine (all_in _ _ _).mono ?_;rintro e w' ⟨rfl,rfl⟩)
 have hQ:Q w ((w.alloc (.cells #[.int .i64 0] 3)).alloc (.cells #[.pointer (some ⟨d,1,none⟩)] 120)):=((Q.refl w).alloc _ _).alloc _ _
 refine wpIn_rangeFunc_ownG rfl (by decide) (gf:=61) (lb:=#[.pointer (some ⟨w.heap.size+1,0,none⟩)]) (by simp [Act.eval]) trivial (enters_of Tryz.func61 (by kernel_rfl) rfl)
  (all_stops tg o d D.files ps hl 5 (by decide) (w.heap.size+1) w _ h.map hQ (by simp) (by simp)) (fun h k=>KeepSet.trans h k) (KeepSet.put (fun k hk=>hk.elim (fun e=>by subst e;simp) (fun e=>by have:=e.1;simp;omega))) (Below.refl _ _) (fun _=>rfl)
  (fun pre W=>W.heap[w.heap.size]?=some (.cells #[.int .i64 (sumOf D.files pre:Nat)] 3 (0,0))∧Below w.heap.size w W)
  (fun _ _ _=>False) ?hI (fun _ _ _ _ _ hs _ _=>hs) ?h0
  (fun x=>{ tmps:=#[.pointer (some ⟨d,0,none⟩),undef,.int .i64 0,.pointer (some ⟨w.heap.size,0,none⟩),undef,.pointer (some ⟨ps[x.1]?.getD 0,0,none⟩),.pointer (some ⟨d,0,none⟩),.pointer (some ⟨d,0,none⟩),.pointer (some ⟨d,1,none⟩),.func (.func 61) #[] #[.pointer (some ⟨w.heap.size+1,0,none⟩)],.string D.files[x.1].name,.pointer (some ⟨ps[x.1]?.getD 0,0,none⟩),undef,undef,undef,undef,undef,undef,undef,undef],defers:=[]}) ?assign ?body ?done ?stop
 case hI =>
  intro pre A B row hs hg hr
  refine ⟨(hg.block _ (Array.getElem?_eq_some_iff.1 hs.1).1 (fun e=>?_)).trans hs.1,?_⟩
  ·have:=(hr _ e.symm).1;simp at this;omega
  ·exact hs.2.grown hg hs.2.size (fun k e=>by have:=(hr k e).1;simp at this;omega)
 case h0=>exact ⟨((Below.refl _ _).alloc (Nat.le_refl _) _:Below (w.alloc (.cells #[.int .i64 0] 3)).heap.size (w.alloc (.cells #[.int .i64 0] 3)) _).block w.heap.size (by simp) |>.trans (heap_alloc_new w _),hQ.below⟩
 case assign =>
  intro l x W K hK
  simp only [mapEntry]
  gi_wp2
  exact hK
 case body =>
  rintro l pre x W ⟨hc,hW⟩ hlen
  have hx:x.1<ps.length:=by have:=h.map.len;simp at this;have:=x.2;omega
  have hxi:x.1<ids.length:=by rw [h.lenI];exact x.2
  obtain ⟨bo,bc,hF⟩:=h.file x.1 _ _ _ (List.getElem?_eq_getElem hx) (List.getElem?_eq_getElem hxi) (List.getElem?_eq_getElem x.2)
  have k0:=(hW.cell (p:=⟨ps[x.1],0,none⟩) hF.top).trans hF.c0
  have hpe:ps[x.1]?.getD 0=ps[x.1]:=by simp [List.getElem?_eq_getElem hx]
  rw [hpe]
  have k1:W.cell? ⟨w.heap.size,0,none⟩=some (.int .i64 (sumOf D.files pre:Nat)):=by simp [World.cell?,hc]
  have k2:W.frozen? ⟨w.heap.size,0,none⟩=false:=frozen_of_row W _ 0 _ _ hc
  have hb1:=sumOf_le D.files 1048576 (fun f hf=>hD.good.small hf) pre
  have hb2:=hD.good.small (List.getElem_mem x.2)
  have hb3:pre.length*1048576≤67108864:=by omega
  have hsum:=sumOf_snoc D.files pre x
  obtain ⟨s0,hs0⟩:∃ s0,sumOf D.files pre=s0:=⟨_,rfl⟩
  obtain ⟨s1,hs1⟩:∃ s1,D.files[x.1].bytes.length=s1:=⟨_,rfl⟩
  rw [hs0] at hb1 k1
  rw [hs1] at hb2 k0
  rw [hs0,hs1] at hsum
  have hwr:IntKind.i64.wrap ((s0:Int)+(s1:Int))=(s0:Int)+(s1:Int):=by rw [IntKind.wrap_i64];omega
  have HR:Hid (KeepsFrom (w.heap.size+1+1) W ((W.setCell ⟨w.heap.size,0,none⟩ (.int .i64 ((s0:Int)+(s1:Int)))).drew)∧KeepSet (mapSet tg o (w.heap.size+1) w.heap.size) W ((W.setCell ⟨w.heap.size,0,none⟩ (.int .i64 ((s0:Int)+(s1:Int)))).drew) ∧
    (((W.setCell ⟨w.heap.size,0,none⟩ (.int .i64 ((s0:Int)+(s1:Int)))).drew).heap[w.heap.size]?=some (.cells #[.int .i64 (sumOf D.files (pre++[x]):Nat)] 3 (0,0))∧Below w.heap.size w ((W.setCell ⟨w.heap.size,0,none⟩ (.int .i64 ((s0:Int)+(s1:Int)))).drew))):=by
   refine ⟨KeepsFrom.of_grownBy ((grown_setCells W w.heap.size 0 [.int .i64 ((s0:Int)+(s1:Int))]).trans (drew_grown _ _)) (fun j e=>by cases e;omega),
    ⟨by simp,fun k hk=>heap_setCell_other W ⟨w.heap.size,0,none⟩ k _ (hk.elim (fun e=>by subst e;simp) (fun e=>by have:=e.1;simp;omega))⟩,?_,(hW.setCell (p:=⟨w.heap.size,0,none⟩) (Nat.le_refl _) _).drew⟩
   rw [hsum]
   exact boxed_set _ hc
  have hmx:Tryz.prog.follows .mixedOrders=true:=by kernel_rfl
  clear hQ h hF hc
  gi_wp2
  gi_region_o
  all_goals gi_wp2
  all_goals exact ⟨by simpa using HR.out.1,HR.out.2.1,HR.out.2.2⟩
 case done =>
  rintro E ys W hE rfl ⟨hc,hW⟩ hK
  rw [sumOf_all] at hc
  have k1:W.cell? ⟨w.heap.size,0,none⟩=some (.int .i64 (M.total D.files:Nat)):=by simp [World.cell?,hc]
  have HB:Hid (Below w.heap.size w W):=hW
  clear hc hW hQ h
  gi_wp2
  refine ⟨by simp,.inl ⟨_,_,rfl,run_takeDeferred hK,?_⟩⟩
  exact ⟨_,results_tmp rfl _ _ _,rfl,⟨HB.out.trans (belowK_b (w:=w) (Nat.le_refl _) W E _ _ (by simp at hE;omega) hK rfl rfl)⟩⟩
 case stop =>
  rintro D c pre W _ _ h _
  exact h.elim
end Go.Proofs.YtekdenkllipehabGreatDoor
namespace Go.Proofs.YtekdenkllipehabGreatDoor
open Go.RowKit
def M.Dsk.chg (D:M.Dsk) (c:Nat):M.Dsk × Nat:=
 if D.dead=true then (D,10) else if c≠0 then (D,c) else match D.dies with | (E,true)=>(E,10) | (E,false)=>(E,0)
theorem chg_files (D:M.Dsk) (c:Nat):(D.chg c).1.files=D.files:=by
 unfold M.Dsk.chg
 have h:=(M.dies_same D).1
 split
 ·rfl
 ·split
  ·rfl
  ·split
   ·rename_i E hE;rw [hE] at h;exact h
   ·rename_i E hE;rw [hE] at h;exact h
theorem M.Dsk.Fine.chg {D:M.Dsk} (h:D.Fine) (c:Nat):(D.chg c).1.Fine:=by
 unfold M.Dsk.chg
 have hd:=h.dies
 split
 ·exact h
 ·split
  ·exact h
  ·split
   ·rename_i E hE;rw [hE] at hd;exact hd
   ·rename_i E hE;rw [hE] at hd;exact hd
def codeOf (b:Bool):Nat:=if b=true then 0 else 7
theorem changed_chg (D:M.Dsk) (nm new:ByteArray):D.changed nm new=((D.chg (codeOf ((M.place D.files nm).isSome && M.okName new))).1,(if (D.chg (codeOf ((M.place D.files nm).isSome && M.okName new))).2=0 then (M.place D.files nm).getD 0 else 0),(D.chg (codeOf ((M.place D.files nm).isSome && M.okName new))).2):=by
 unfold M.Dsk.changed M.Dsk.chg codeOf
 by_cases hd:D.dead=true
 ·simp [hd]
 ·simp only [if_neg hd]
  cases hp:M.place D.files nm with
  | none=>simp
  | some i =>
   cases ho:M.okName new
   ·simp
   ·simp only [Option.isSome_some,Bool.and_true,if_true,ne_eq,not_true_eq_false,if_false,Option.getD_some,Bool.true_eq_false]
    split<;>simp_all
def appCode (D:M.Dsk) (nm:ByteArray) (n:Nat):Nat:=
 if M.okName nm=false then 7 else if D.cap<M.total D.files+n∨(M.place D.files nm=none∧64≤D.files.length) then 9 else 0
theorem append_chg (D:M.Dsk) (nm:ByteArray) (s:List UInt8):D.append nm s=match D.chg (appCode D nm s.length) with
  | (E,0)=>(match M.place E.files nm with
   | some i=>({ E with files:=E.files.modify i fun f=>{ f with bytes:=f.bytes++s }},0)
   | none=>({ E with files:=M.put E.files ⟨nm,s,0⟩},0))
  | (E,c)=>(E,c):=by
 unfold M.Dsk.append M.Dsk.chg appCode
 by_cases hd:D.dead=true
 ·simp [hd]
 ·simp only [if_neg hd]
  by_cases ho:M.okName nm=false
  ·simp [ho]
  ·simp only [if_neg ho]
   by_cases hr:D.cap<M.total D.files+s.length∨(M.place D.files nm=none∧64≤D.files.length)
   ·simp only [if_pos hr]
    simp
   ·simp only [if_neg hr]
    simp only [ne_eq,not_true_eq_false,if_false]
    split
    ·rename_i E hE;simp [hE]
    ·rename_i E hE
     simp only [hE]
     cases M.place E.files nm<;>rfl
theorem LDiskAt.fuseSet {w:World} {tg:Tags} {o d:Nat} {D:M.Dsk} {ids ps:List Nat} (h:LDiskAt w tg o d D ids ps) (n:Nat):LDiskAt (w.setCell ⟨d,4,none⟩ (.int .i64 (n:Int))) tg o d ⟨D.cap,D.files,D.dead,n⟩ ids ps:=by
 have hg:w.grownBy (w.setCell ⟨d,4,none⟩ (.int .i64 (n:Int))) (some d):=⟨rfl,rfl,rfl,by simp,fun k _ hk=>heap_setCell_other w ⟨d,4,none⟩ k _ (fun e=>hk (by simp [e]))⟩
 exact h.header hg (fun j=>by rw [World.frozen?_setCell];exact h.map.fr j) (World.cell?_setCell_other _ _ _ _ (by simp)) (World.cell?_setCell_other _ _ _ _ (by simp)) D.dead n (by rw [World.cell?_setCell_other _ _ _ _ (by simp)];exact h.c0) (by rw [World.cell?_setCell_other _ _ _ _ (by simp)];exact h.c3) (World.cell?_setCell_same _ _ _ h.c4)
theorem LDiskAt.deadSet {w:World} {tg:Tags} {o d:Nat} {D:M.Dsk} {ids ps:List Nat} (h:LDiskAt w tg o d D ids ps) (b:Bool):LDiskAt (w.setCell ⟨d,3,none⟩ (.bool b)) tg o d ⟨D.cap,D.files,b,D.fuse⟩ ids ps:=by
 have hg:w.grownBy (w.setCell ⟨d,3,none⟩ (.bool b)) (some d):=⟨rfl,rfl,rfl,by simp,fun k _ hk=>heap_setCell_other w ⟨d,3,none⟩ k _ (fun e=>hk (by simp [e]))⟩
 exact h.header hg (fun j=>by rw [World.frozen?_setCell];exact h.map.fr j) (World.cell?_setCell_other _ _ _ _ (by simp)) (World.cell?_setCell_other _ _ _ _ (by simp)) b D.fuse (by rw [World.cell?_setCell_other _ _ _ _ (by simp)];exact h.c0) (World.cell?_setCell_same _ _ _ h.c3) (by rw [World.cell?_setCell_other _ _ _ _ (by simp)];exact h.c4)
theorem diskChange (tg:Tags) (o d:Nat) (D:M.Dsk) (ids ps:List Nat) (c:Nat) (hf:D.fuse≤9223372036854775807) (w:World) (h:LDiskAt w tg o d D ids ps) :
  Calls Tryz.prog 70 #[.pointer (some ⟨d,0,none⟩),.int .i64 (c:Int)] w fun e w'=>e=.returned (.int .i64 ((D.chg c).2:Nat))∧LDiskAt w' tg o d (D.chg c).1 ids ps∧Only o tg w w':=by
 have HD:Hid (LDiskAt w tg o d D ids ps):=h
 have htop:=h.map.top
 have htd:=h.map.td
 have c3:=h.c3
 have c4:=h.c4
 have f3:=h.map.fr 3
 have f4:=h.map.fr 4
 clear h
 unfold M.Dsk.chg
 cases hd:D.dead
 ·rw [hd] at c3
  simp only [Bool.false_eq_true,if_false]
  by_cases hc:c=0
  ·subst hc
   simp only [ne_eq,not_true_eq_false,if_false]
   unfold M.Dsk.dies
   by_cases h0:0<D.fuse
   ·obtain ⟨n,hn⟩:∃ n,D.fuse=n+1:=⟨D.fuse-1,by omega⟩
    rw [if_pos h0]
    simp only [hn,Nat.add_sub_cancel]
    rw [hn] at c4
    have w1:IntKind.i64.wrap ((n:Int)+1-1)=(n:Int):=by rw [IntKind.wrap_i64];omega
    have w2:IntKind.i64.wrap (n:Int)=(n:Int):=by rw [IntKind.wrap_i64];omega
    have hd0:(((n:Int)+1) == 0)=false:=by rw [beq_eq_false_iff_ne];omega
    by_cases hn0:n=0
    ·subst hn0
     simp only [decide_true]
     have HD2:Hid (LDiskAt ((w.setCell ⟨d,4,none⟩ (.int .i64 ((0:Nat):Int))).setCell ⟨d,3,none⟩ (.bool true)) tg o d ⟨D.cap,D.files,true,0⟩ ids ps):=(HD.out.fuseSet 0).deadSet _
     have HO:Hid (Only o tg w ((w.setCell ⟨d,4,none⟩ (.int .i64 ((0:Nat):Int))).setCell ⟨d,3,none⟩ (.bool true))):=only_set (only_set (Only.refl o tg w) (fun k _ e=>by rw [e,htd]) 4 _) (fun k _ e=>by rw [e,htd]) 3 _
     clear h0 hn hf HD hd
     go_enter Tryz.func70,Tryz.ntmps70
     go_wp2_with fail
     go_ret
     exact ⟨rfl,HD2.out,HO.out⟩
    ·simp only [decide_eq_false hn0]
     have HD2:Hid (LDiskAt (w.setCell ⟨d,4,none⟩ (.int .i64 (n:Int))) tg o d ⟨D.cap,D.files,D.dead,n⟩ ids ps):=HD.out.fuseSet n
     rw [hd] at HD2
     have HO:Hid (Only o tg w (w.setCell ⟨d,4,none⟩ (.int .i64 (n:Int)))):=only_set (Only.refl o tg w) (fun k _ e=>by rw [e,htd]) 4 _
     have hz0:((n:Int) == 0)=false:=by rw [beq_eq_false_iff_ne];omega
     clear h0 hn hf HD hd hn0
     go_enter Tryz.func70,Tryz.ntmps70
     go_wp2_with fail
     go_ret
     exact ⟨rfl,HD2.out,HO.out⟩
   ·rw [if_neg h0]
    have hz:D.fuse=0:=by omega
    rw [hz] at c4
    simp only [hd]
    clear h0 hz hf hd
    go_enter Tryz.func70,Tryz.ntmps70
    go_wp2_with fail
    go_ret
    exact ⟨rfl,HD.out,Only.refl o tg w⟩
  ·rw [if_pos hc]
   have hcz:((c:Int) == 0)=false:=by rw [beq_eq_false_iff_ne];omega
   clear hf hd
   go_enter Tryz.func70,Tryz.ntmps70
   go_wp2_with fail
   go_ret
   exact ⟨rfl,HD.out,Only.refl o tg w⟩
 ·rw [hd] at c3
  simp only [if_true]
  clear hf hd
  go_enter Tryz.func70,Tryz.ntmps70
  go_wp2_with fail
  go_ret
  exact ⟨rfl,HD.out,Only.refl o tg w⟩
theorem diskNamed (b:Bool) (w:World) :
  Calls Tryz.prog 73 #[.bool b] w fun e w'=>e=.returned (.int .i64 (codeOf b:Nat))∧w'=w:=by
 cases b
 ·go_enter Tryz.func73,Tryz.ntmps73
  go_wp2_with fail
  go_ret
  exact ⟨rfl,rfl⟩
 ·go_enter Tryz.func73,Tryz.ntmps73
  go_wp2_with fail
  go_ret
  exact ⟨rfl,rfl⟩
theorem diskIsName (nm:ByteArray) (w:World) :
  Calls Tryz.prog 101 #[.string nm] w fun e w'=>e=.returned (.bool (M.okName nm))∧Q w w':=by
 have h1:M.okName nm=(decide (1≤nm.size) && decide (nm.size≤32)):=by unfold M.okName;rw [Bool.decide_and]
 rw [h1]
 by_cases ha:1≤nm.size
 ·by_cases hb:nm.size≤32
  ·have d1:decide ((1:Int)≤(nm.size:Int))=true:=by rw [decide_eq_true_eq];omega
   have d2:decide ((nm.size:Int)≤32)=true:=by rw [decide_eq_true_eq];omega
   rw [decide_eq_true ha,decide_eq_true hb]
   go_enter Tryz.func101,Tryz.ntmps101
   go_wp2_with fail
   go_ret
   exact ⟨rfl,Q.refl w⟩
  ·have d1:decide ((1:Int)≤(nm.size:Int))=true:=by rw [decide_eq_true_eq];omega
   have d2:decide ((nm.size:Int)≤32)=false:=by rw [decide_eq_false_iff_not];omega
   rw [decide_eq_true ha,decide_eq_false hb]
   go_enter Tryz.func101,Tryz.ntmps101
   go_wp2_with fail
   go_ret
   exact ⟨rfl,Q.refl w⟩
 ·have d1:decide ((1:Int)≤(nm.size:Int))=false:=by rw [decide_eq_false_iff_not];omega
  rw [decide_eq_false ha]
  go_enter Tryz.func101,Tryz.ntmps101
  go_wp2_with fail
  go_ret
  exact ⟨rfl,Q.refl w⟩
theorem ldiskAt_new (tg:Tags) (o:Nat) (w:World) (c:Nat) (t:TypeId):LDiskAt (w.alloc (.cells #[.int .i64 (c:Int),.slice none 0 0,.slice none 0 0,.bool false,.int .i64 0] t)) (tg.more w.heap.size o 0) o w.heap.size ⟨c,[],false,0⟩ [] []:=by
 refine ⟨⟨fun j=>by simp,Tags.more_new (Nat.le_refl _),by simp,⟨none,0,by simp [namesOf],World.ownsRow_nil _ _ _ _,fun g hg=>by simp [Value.ownBlock] at hg⟩,⟨none,0,by simp [namesOf],World.ownsRow_nil _ _ _ _,fun g hg=>by simp [Value.ownBlock] at hg⟩,rfl⟩,by simp,by simp,by simp,List.nodup_nil,rfl,fun i p id f h1 _ _=>by simp at h1⟩
theorem diskNew_yes (c:Nat) (hc:c≤1048576) (tg:Tags) (o:Nat) (w:World) :
  Calls Tryz.prog 17 #[.int .i64 (c:Int)] w fun e w'=>e=.returned (.tuple #[.pointer (some ⟨w.heap.size,0,none⟩),.int .i64 0])∧LDiskAt w' (tg.more w.heap.size o 0) o w.heap.size ⟨c,[],false,0⟩ [] []∧Q w w':=by
 have d1:decide ((c:Int)<0)=false:=by rw [decide_eq_false_iff_not];omega
 have d2:decide ((1048576:Int)<(c:Int))=false:=by rw [decide_eq_false_iff_not];omega
 have HN:Hid _:=ldiskAt_new tg o w c 85
 go_enter Tryz.func17,Tryz.ntmps17
 go_wp2_with fail
 go_ret2
 exact ⟨rfl,HN.out,(Q.refl w).alloc _ _⟩
end Go.Proofs.YtekdenkllipehabGreatDoor
