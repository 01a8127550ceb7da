import Derived.Test.YtekdenkllipehabGreatDoorK18
set_option maxRecDepth 100000
set_option maxHeartbeats 8000000
namespace Go.Proofs.YtekdenkllipehabGreatDoor
open Go.RowKit
def Strs (w:World) (ao:Option Addr) (P:List ByteArray):Prop:=P=[]∨∃ g o,ao=some ⟨g,o,none⟩∧g<w.heap.size∧∀ (k:Nat) (s:ByteArray),P[k]?=some s→w.cell? ⟨g,o+k,none⟩=some (.string s)
theorem Strs.kept {w w':World} {ao:Option Addr} {P:List ByteArray} (h:Strs w ao P) (q:Below w.heap.size w w'):Strs w' ao P:=by
 rcases h with h|⟨g,o,rfl,hg,hs⟩
 ·exact Or.inl h
 ·exact Or.inr ⟨g,o,rfl,by have:=q.size;omega,fun k s hk=>(q.cell (p:=⟨g,o+k,none⟩) hg).trans (hs k s hk)⟩
theorem Strs.at {w:World} {ao:Option Addr} {P:List ByteArray} (h:Strs w ao P) {k:Nat} (hk:k<P.length):∃ g o,ao=some ⟨g,o,none⟩∧g<w.heap.size∧w.cell? ⟨g,o+k,none⟩=some (.string P[k]):=by
 rcases h with h|⟨g,o,rfl,hg,hs⟩
 ·subst h;simp at hk
 ·exact ⟨g,o,rfl,hg,hs k _ (List.getElem?_eq_getElem hk)⟩
theorem cat_take_le (P:List ByteArray) (k:Nat):(M.cat (P.take k)).length≤(M.cat P).length:=by
 have:M.cat P=M.cat (P.take k)++M.cat (P.drop k):=by rw [←M.cat_append,List.take_append_drop]
 rw [this,List.length_append];omega
theorem grow_fresh (n:Nat) (hn:n≤281474976710656) (w:World) :
  Calls Tryz.prog 162 #[.pointer (some ⟨w.heap.size,0,none⟩),.int .i64 n] (w.alloc (.cells #[.pointer none,.slice none 0 0] 224)) fun e w'=>e=.returned (.tuple #[])∧(Lib.BuilderAt 224 5 w.heap.size w.heap.size (.pointer (some ⟨w.heap.size,0,none⟩)) [] w'∧Below w.heap.size (w.alloc (.cells #[.pointer none,.slice none 0 0] 224)) w'):=
 Any.Builder_Grow_fresh lays165 extra165 w.heap.size w.heap.size n (w.alloc (.cells #[.pointer none,.slice none 0 0] 224)) (Nat.le_refl _) (heap_alloc_new w _) (by simp) hn
theorem write_string (B b:Nat) (l:List UInt8) (s:ByteArray) (w:World) (h:Lib.BuilderAt 224 5 B b (.pointer (some ⟨b,0,none⟩)) (Lib.byteCells l) w) (hlen:l.length+s.size≤140737488355328) (hBw:B≤w.heap.size) :
  Calls Tryz.prog 163 #[.pointer (some ⟨b,0,none⟩),.string s] w fun e w'=>e=.returned (.tuple #[.int .i64 s.size,.nilIface])∧(Lib.BuilderAt 224 5 B b (.pointer (some ⟨b,0,none⟩)) (Lib.byteCells (l++s.data.toList)) w'∧Below B w w'):=by
 have c:=Any.Builder_WriteString lays166 extra166 B b (Lib.byteCells l) s w (Or.inr h) (by rw [Lib.byteCells_length];exact hlen) hBw
 rw [Lib.strCells_eq,←Lib.byteCells_append] at c
 exact c
theorem builder_string (B b:Nat) (l:List UInt8) (w:World) (h:Lib.BuilderAt 224 5 B b (.pointer (some ⟨b,0,none⟩)) (Lib.byteCells l) w) (hBw:B≤w.heap.size) :
  Calls Tryz.prog 164 #[.pointer (some ⟨b,0,none⟩)] w fun e w'=>e=.returned (.string ⟨l.toArray⟩)∧Below B w w':=
 Any.Builder_String_any lays169 extra169 B b l w (Or.inr h) hBw
theorem join_any (P:List ByteArray) (ao:Option Addr) (cap:Nat) (w:World) (h:Strs w ao P) (hl:(M.cat P).length≤140737488355328) (hn:P.length≤140737488355328) :
  Calls Tryz.prog 129 #[.slice ao P.length cap] w fun e w'=>e=.returned (.string ⟨(M.cat P).toArray⟩)∧Q w w':=by
 have HT:Hid (∀ k s,P[k]?=some s→M.cat (P.take (k+1))=M.cat (P.take k)++s.data.toList):=fun k s hk=>M.cat_take hk
 have HE:Hid (M.cat (P.take P.length)=M.cat P):=by rw [List.take_length];exact rfl
 have HL:Hid (∀ k,(M.cat (P.take k)).length≤(M.cat P).length):=cat_take_le P
 have HH:Hid (Strs w ao P):=h
 clear h
 go_enter Tryz.func129,Tryz.ntmps129
 go_wp2_with fail
 go_loop [3,11] (fun n i=>∃ k:Nat,k≤P.length∧i=.int .i64 k∧n=.int .i64 ((M.cat (P.take k)).length:Nat)) (fun _ i=>P.length-(intOf i).toNat)
 case atStart=>exact ⟨0,Nat.zero_le _,rfl,by simp [M.cat]⟩
 case round =>
  obtain ⟨k,hk,rfl,rfl⟩:=hrel
  have hlk:=HL.out k
  by_cases hlt:k<P.length
  ·obtain ⟨g,o,rfl,hg,hc⟩:=HH.out.at hlt
   have hlk1:=HL.out (k+1)
   have HS:Hid _:=HT.out k _ (List.getElem?_eq_getElem hlt)
   have hlk2:(M.cat (P.take (k+1))).length=(M.cat (P.take k)).length+P[k].size:=by rw [HS.out,List.length_append];simp
   go_wp2_with fail
   go_round
   case rel=>exact ⟨k+1,by omega,by go_num,by rw [hlk2];go_num⟩
   case measure=>simp [intOf];omega
  ·obtain rfl:k=P.length:=by omega
   have hgr:=grow_fresh (M.cat P).length (by omega) w
   rw [HE.out]
   have HG:Hid _:=fun (_:Unit)=>hgr
   clear hgr hlk
   have hc0:M.cat (P.take 0)=[]:=by simp [M.cat]
   have HC0:Hid (M.cat (P.take 0)=[]):=hc0
   clear hc0
   generalize hN:(M.cat P).length=N at *
   clear hN
   go_wp2_with fail
   refine (HG.out ()).mono ?_
   rintro e w1 ⟨rfl,hb1,hw1⟩
   have hB1:Below w.heap.size w w1:=((Below.refl _ w).alloc (Nat.le_refl _) _).trans hw1
   clear hw1
   go_wp2_with fail
   go_loopw [24] (fun i wr=>∃ k:Nat,k≤P.length∧i=.int .i64 k∧Lib.BuilderAt 224 5 w.heap.size w.heap.size (.pointer (some ⟨w.heap.size,0,none⟩)) (Lib.byteCells (M.cat (P.take k))) wr∧Below w.heap.size w wr) (fun i _=>P.length-(intOf i).toNat)
   case atStart=>exact ⟨0,Nat.zero_le _,rfl,by rw [HC0.out];exact hb1,hB1⟩
   case round =>
    obtain ⟨k,hk,rfl,hbk,hBk⟩:=hrel
    by_cases hlt:k<P.length
    ·obtain ⟨g,o,rfl,hg,hc⟩:=(HH.out.kept hBk).at hlt
     have HS:Hid _:=HT.out k _ (List.getElem?_eq_getElem hlt)
     have hlk1:=HL.out (k+1)
     rw [HS.out,List.length_append] at hlk1
     have hsz:P[k].data.toList.length=P[k].size:=by simp
     have HW:Hid _:=fun (_:Unit)=>write_string _ _ _ P[k] wr hbk (by omega) hBk.size
     generalize P[k]=s at *
     clear hbk hlk1
     go_wp2_with fail
     refine (HW.out ()).mono ?_
     rintro e w2 ⟨rfl,hb2,hw2⟩
     go_wp2_with fail
     go_roundw
     case rel=>exact ⟨k+1,by omega,by go_num,by rw [HS.out];exact hb2,hBk.trans hw2⟩
     case measure=>simp [intOf];omega
    ·obtain rfl:k=P.length:=by omega
     rw [HE.out] at hbk
     have HW:Hid _:=fun (_:Unit)=>builder_string _ _ _ wr hbk hBk.size
     clear hbk
     go_wp2_with fail
     refine (HW.out ()).mono ?_
     rintro e w2 ⟨rfl,hw2⟩
     go_wp2_with fail
     go_ret
     exact ⟨rfl,⟨hBk.trans hw2⟩⟩
end Go.Proofs.YtekdenkllipehabGreatDoor
namespace Go.Proofs.YtekdenkllipehabGreatDoor
open Go.RowKit
theorem infoString:(Tryz.prog.info? 9).map (fun i=>(i.zero,i.size,i.bytes))=some (some (.string ⟨#[]⟩),1,16):=by kernel_rfl
theorem own_strs {w:World} {base n cap:Nat} {ao:Option Addr} {P:List ByteArray} (h:w.ownsRow base 9 1 (.slice ao n cap) n (strVals P)):n=P.length∧Strs w ao P:=by
 have hn:n=P.length:=by have:=h.1;simp [strVals] at this;omega
 refine ⟨hn,?_⟩
 by_cases hP:P=[]
 ·exact Or.inl hP
 ·obtain ⟨g,rfl,_,hlt,hc⟩:=own_cells h (by simpa [strVals] using hP)
  exact Or.inr ⟨g,0,rfl,hlt,fun k s hk=>by rw [Nat.zero_add];exact hc k _ (by simp [strVals,hk])⟩
theorem one_str (s:ByteArray):∀ u∈[Value.string s],u.oneCell'=true:=by
 intro u hu;simp at hu;subst hu;rfl
structure Parts (w:World) (P:List ByteArray) (ao:Option Addr) (cap:Nat) (wr:World):Prop where
 below:Below w.heap.size w wr
 own:wr.ownsRow w.heap.size 9 1 (.slice ao P.length cap) P.length (strVals P)
theorem Parts.kept {w wr wr':World} {P:List ByteArray} {ao:Option Addr} {cap:Nat} (h:Parts w P ao cap wr) (q:Q wr wr'):Parts w P ao cap wr':=
 ⟨h.below.trans (q.below.mono h.below.size),own_below h.own q.below⟩
theorem seven_cells (w:World) (a b c d e f g:Value) (t:TypeId):∀ j u,[a,b,c,d,e,f,g][j]?=some u→(w.alloc (.cells #[a,b,c,d,e,f,g] t)).cell? ((⟨w.heap.size,0,none⟩:Addr).add j)=some u:=by
 intro j u hj
 match j,hj with
 | 0,hj=>simp at hj;subst hj;simp [Addr.add]
 | 1,hj=>simp at hj;subst hj;simp [Addr.add]
 | 2,hj=>simp at hj;subst hj;simp [Addr.add]
 | 3,hj=>simp at hj;subst hj;simp [Addr.add]
 | 4,hj=>simp at hj;subst hj;simp [Addr.add]
 | 5,hj=>simp at hj;subst hj;simp [Addr.add]
 | 6,hj=>simp at hj;subst hj;simp [Addr.add]
 | j+7,hj=>simp at hj
theorem Parts.more {w wr w':World} {P:List ByteArray} {ao ao':Option Addr} {cap cap':Nat} (h:Parts w P ao cap wr) (N:List ByteArray)
  (hg:wr.grownBy w' (Value.slice ao P.length cap).ownBlock)
  (ho:w'.ownsRow w.heap.size 9 1 (.slice ao' (P.length+N.length) cap') (P.length+N.length) (strVals P++strVals N)) :
  Parts w (P++N) ao' cap' w':=by
 refine ⟨h.below.grown hg h.below.size (own_base h.own),?_⟩
 have:strVals (P++N)=strVals P++strVals N:=by simp [strVals]
 rw [this,List.length_append]
 exact ho
end Go.Proofs.YtekdenkllipehabGreatDoor
namespace Go.Proofs.YtekdenkllipehabGreatDoor
open Go.RowKit
theorem made_any (L:List M.St) (ao:Option Addr) (cap:Nat) (w:World) (h:Steps w ao L) (hl:M.tot L≤4096) (hg:M.Goods L) :
  Calls Tryz.prog 182 #[.slice ao L.length cap] w fun e w'=>e=.returned (.int .i64 (M.tot L:Nat))∧Q w w':=by
 have hn:=M.length_le_tot hg
 have HT:Hid (∀ (k:Nat) (s:M.St),L[k]?=some s→M.tot (L.take (k+1))=M.tot (L.take k)+s.size):=fun k s hk=>M.tot_take hk
 have HL:Hid (∀ k,M.tot (L.take k)≤M.tot L):=M.tot_take_le L
 have HE:Hid (M.tot (L.take L.length)=M.tot L):=by rw [List.take_length];exact rfl
 have HH:Hid (Steps w ao L):=h
 clear h hg
 go_enter Tryz.func182,Tryz.ntmps182
 go_wp2_with fail
 go_loopw [3,8] (fun n i wr=>∃ k:Nat,k≤L.length∧i=.int .i64 k∧n=.int .i64 (M.tot (L.take k):Nat)∧Q w wr) (fun _ i _=>L.length-(intOf i).toNat)
 case atStart=>exact ⟨0,Nat.zero_le _,rfl,by simp [M.tot],Q.refl w⟩
 case round =>
  obtain ⟨k,hk,rfl,rfl,hq⟩:=hrel
  have hlk:=HL.out k
  by_cases hlt:k<L.length
  ·obtain ⟨g,o,rfl,hg,hc⟩:=(HH.out.kept hq).at hlt
   obtain ⟨c0,c1,c2⟩:=hc k _ (List.getElem?_eq_getElem hlt)
   have hlk1:=HL.out (k+1)
   have hS:=HT.out k _ (List.getElem?_eq_getElem hlt)
   generalize L[k]=s at *
   have HS:Hid _:=hS
   have hlk2:M.tot (L.take k)+s.size≤4096:=by omega
   clear hS hlk1 hc
   go_wp2_with fail
   go_roundw
   case rel=>exact ⟨k+1,by omega,by go_num,by rw [HS.out];go_num,hq.alloc _ _⟩
   case measure=>simp [intOf];omega
  ·obtain rfl:k=L.length:=by omega
   have E:Hid _:=HE.out
   go_wp2_with fail
   go_ret
   exact ⟨congrArg (fun n:Nat=>Ending.returned (.int .i64 (n:Int))) E.out,hq⟩
theorem reachS_any (L:List M.St) (ao:Option Addr) (cap:Nat) (w:World) (h:Steps w ao L) (hl:L.length≤4096) (hg:M.Goods L) :
  Calls Tryz.prog 157 #[.slice ao L.length cap] w fun e w'=>e=.returned (.int .i64 (M.reach (M.flat L):Nat))∧Q w w':=by
 have HT:Hid (∀ (k:Nat) (s:M.St),L[k]?=some s→M.reach (M.flat (L.take (k+1)))=max (M.reach (M.flat (L.take k))) (if s.put.size=0 then s.place+s.size else 0)):=fun k s hk=>M.reach_take_st hg hk
 have HP:Hid (∀ (k:Nat) (s:M.St),L[k]?=some s→s.size≤4096∧s.place+s.size≤72057594037927935):=fun k s hk=>(hg.get hk).pos.2
 have HB:Hid (∀ k,M.reach (M.flat (L.take k))≤72057594037927935):=fun k=>by
  refine M.reach_le fun x hx=>?_
  simp only [M.flat,List.mem_flatMap] at hx
  obtain ⟨s,hs,hx⟩:=hx
  have hgs:=hg s (List.mem_of_mem_take hs)
  have h1:=M.reach_mem hx
  rw [M.reach_acc hgs] at h1
  have:=hgs.pos
  split at h1<;>omega
 have HE:Hid (M.reach (M.flat (L.take L.length))=M.reach (M.flat L)):=by rw [List.take_length];exact rfl
 have HH:Hid (Steps w ao L):=h
 clear h hg
 go_enter Tryz.func157,Tryz.ntmps157
 go_wp2_with fail
 go_loopw [3,8] (fun n i wr=>∃ k:Nat,k≤L.length∧i=.int .i64 k∧n=.int .i64 (M.reach (M.flat (L.take k)):Nat)∧Q w wr) (fun _ i _=>L.length-(intOf i).toNat)
 case atStart=>exact ⟨0,Nat.zero_le _,rfl,by simp [M.reach,M.flat],Q.refl w⟩
 case round =>
  obtain ⟨k,hk,rfl,rfl,hq⟩:=hrel
  have hlk:=HB.out k
  by_cases hlt:k<L.length
  ·obtain ⟨g,o,rfl,hg,hc⟩:=(HH.out.kept hq).at hlt
   obtain ⟨c0,c1,c2⟩:=hc k _ (List.getElem?_eq_getElem hlt)
   have hS:=HT.out k _ (List.getElem?_eq_getElem hlt)
   have hp:=HP.out k _ (List.getElem?_eq_getElem hlt)
   generalize L[k]=s at *
   generalize M.reach (M.flat (L.take k))=m at *
   have HS:Hid _:=hS
   clear hS hc
   by_cases hz:s.put.size=0
   ·have PC:Hid _:=puts_no s hz
    simp only [M.St.val] at PC
    rw [if_pos hz] at HS
    go_wp2_with fail
    refine (PC.out _).mono ?_
    rintro e w1 ⟨rfl,q1⟩
    have d1:w1.cell? ⟨wr.heap.size,1,none⟩=some (.int .i64 s.place):=(q1.below.cell (p:=⟨wr.heap.size,1,none⟩) (by simp)).trans (by simp)
    have d2:w1.cell? ⟨wr.heap.size,2,none⟩=some (.int .i64 s.size):=(q1.below.cell (p:=⟨wr.heap.size,2,none⟩) (by simp)).trans (by simp)
    go_wp2_with fail
    go_roundw
    case rel=>exact ⟨k+1,by omega,by go_num,by rw [HS.out];go_num,(hq.alloc _ _).trans q1⟩
    case measure=>simp [intOf];omega
   ·have PC:Hid _:=puts_yes s hz
    simp only [M.St.val] at PC
    rw [if_neg hz] at HS
    go_wp2_with fail
    refine (PC.out _).mono ?_
    rintro e w1 ⟨rfl,q1⟩
    go_wp2_with fail
    go_roundw
    case rel=>exact ⟨k+1,by omega,by go_num,by rw [HS.out];go_num,(hq.alloc _ _).trans q1⟩
    case measure=>simp [intOf];omega
  ·obtain rfl:k=L.length:=by omega
   have E:Hid _:=HE.out
   go_wp2_with fail
   go_ret
   exact ⟨congrArg (fun n:Nat=>Ending.returned (.int .i64 (n:Int))) E.out,hq⟩
theorem Parts.push {w wr w':World} {P:List ByteArray} {ao ao':Option Addr} {cap cap':Nat} (h:Parts w P ao cap wr) (s:ByteArray) (o:Obj)
  (hg:(wr.alloc o).grownBy w' (Value.slice ao P.length cap).ownBlock)
  (ho:w'.ownsRow w.heap.size 9 1 (.slice ao' (P.length+1) cap') (P.length+1) (strVals P++[.string s])) :
  Parts w (P++[s]) ao' cap' w':=by
 have hs:=h.below.size
 refine ⟨(h.below.alloc hs _).grown hg (by simp;omega) (own_base h.own),?_⟩
 have:strVals (P++[s])=strVals P++[.string s]:=by simp [strVals]
 rw [this,List.length_append]
 exact ho
theorem text_take {L:List M.St} {k:Nat} {s:M.St} (b:ByteArray) (h:L[k]?=some s):(L.take (k+1)).map (M.St.text · b)=(L.take k).map (M.St.text · b)++[s.text b]:=by
 rw [M.take_succ h];simp
theorem cat_text (L:List M.St) (b:ByteArray) (h:∀ s∈L,s.put.size=0→s.place+s.size≤b.size):M.cat (L.map (M.St.text · b))=M.made (M.flat L) b.data.toList:=by
 induction L with
 | nil=>rfl
 | cons s L ih =>
  rw [M.flat_cons,M.made_append,M.made_acc s b (h s (by simp)),←ih fun t ht=>h t (by simp [ht])]
  rfl
theorem reach_in {L:List M.St} (hg:M.Goods L) {s:M.St} (hs:s∈L) (h0:s.put.size=0):s.place+s.size≤M.reach (M.flat L):=by
 have h1:=M.reach_acc (hg s hs)
 rw [if_pos h0] at h1
 rw [←h1]
 refine M.reach_le fun x hx=>M.reach_mem ?_
 simp only [M.flat,List.mem_flatMap]
 exact ⟨s,hs,hx⟩
theorem text_any (b:ByteArray) (L:List M.St) (ao:Option Addr) (cap:Nat) (w:World) (h:Steps w ao L) (hb:b.size≤140737488351232) (ht:M.tot L≤4096) (hg:M.Goods L) (hr:M.reach (M.flat L)≤b.size) :
  Calls Tryz.prog 158 #[.string b,.slice ao L.length cap] w fun e w'=>e=.returned (.string ⟨(M.made (M.flat L) b.data.toList).toArray⟩)∧Q w w':=by
 have hn:=M.length_le_tot hg
 have hrs:∀ s∈L,s.put.size=0→s.place+s.size≤b.size:=fun s hs h0=>Nat.le_trans (reach_in hg hs h0) hr
 have hcat:=cat_text L b hrs
 have hcl:(M.cat (L.map (M.St.text · b))).length≤4096:=by rw [hcat];simp [M.made];rw [M.flat_length hg];exact ht
 have HC:Hid _:=fun (_:Unit)=>hcat
 have HR:Hid (∀ (k:Nat) (s:M.St),L[k]?=some s→s.put.size=0→s.place+s.size≤b.size):=fun k s hk=>hrs s (List.mem_of_getElem? hk)
 have HT:Hid (∀ (k:Nat) (s:M.St),L[k]?=some s→(L.take (k+1)).map (M.St.text · b)=(L.take k).map (M.St.text · b)++[s.text b]):=fun k s hk=>text_take b hk
 have HN:Hid (∀ k,k≤L.length→((L.take k).map (M.St.text · b)).length=k):=fun k hk=>by simp;omega
 have HE:Hid ((L.take L.length).map (M.St.text · b)=L.map (M.St.text · b)):=by rw [List.take_length];exact rfl
 have HH:Hid (Steps w ao L):=h
 have hZ0:(L.take 0).map (M.St.text · b)=[]:=by simp
 obtain ⟨i0,hi,hz0,hz1,hz2⟩:=info_parts infoString
 obtain ⟨w0,hrun,hown,hgr⟩:=run_make_own (P:=Tryz.prog) w w.heap.size 63 9 i0 (.string ⟨#[]⟩) 1 Tryz.underlying63 hi hz0 hz1 .i64 .i64 L.length (by rw [hz2];omega) (by unfold maxLen;omega) (Nat.le_refl _)
 have hp0:Parts w ((L.take 0).map (M.St.text · b)) (some ⟨w.heap.size,0,none⟩) L.length w0:=by
  rw [hZ0]
  exact ⟨(Below.refl _ w).grown hgr (Nat.le_refl _) (by simp),hown⟩
 clear h hg hcat hrs hr hown hgr hZ0
 go_enter Tryz.func158,Tryz.ntmps158
 go_wp2_with fail
 go_loopw [5,13] (fun p i wr=>∃ (k:Nat) (ap:Option Addr) (cp:Nat),k≤L.length∧i=.int .i64 k∧p=.slice ap k cp∧Parts w ((L.take k).map (M.St.text · b)) ap cp wr) (fun _ i _=>L.length-(intOf i).toNat)
 case atStart=>exact ⟨0,_,_,Nat.zero_le _,rfl,rfl,hp0⟩
 case round =>
  obtain ⟨k,ap,cp,hk,rfl,rfl,hp⟩:=hrel
  have hkl:=HN.out k hk
  by_cases hlt:k<L.length
  ·obtain ⟨g,o,rfl,hg,hc⟩:=(HH.out.kept ⟨hp.below⟩).at hlt
   obtain ⟨c0,c1,c2⟩:=hc k _ (List.getElem?_eq_getElem hlt)
   have hS:=HT.out k _ (List.getElem?_eq_getElem hlt)
   have hR:=HR.out k _ (List.getElem?_eq_getElem hlt)
   generalize L[k]=s at *
   have HS:Hid _:=hS
   generalize (L.take k).map (M.St.text · b)=PP at *
   subst hkl
   clear hS hc hp0 hrun
   by_cases hz:s.put.size=0
   ·have PC:Hid _:=puts_no s hz
    simp only [M.St.val] at PC
    have hR2:=hR hz
    have htx:s.text b=b.extract s.place (s.place+s.size):=by simp [M.St.text,hz]
    rw [htx] at HS
    have e1:=cut_str b s.place s.size hR2
    clear hR htx
    go_wp2_with fail
    refine (PC.out _).mono ?_
    rintro e w1 ⟨rfl,q1⟩
    have d1:w1.cell? ⟨wr.heap.size,1,none⟩=some (.int .i64 s.place):=(q1.below.cell (p:=⟨wr.heap.size,1,none⟩) (by simp)).trans (by simp)
    have d2:w1.cell? ⟨wr.heap.size,2,none⟩=some (.int .i64 s.size):=(q1.below.cell (p:=⟨wr.heap.size,2,none⟩) (by simp)).trans (by simp)
    have hp1:=(hp.kept ((Q.refl wr).alloc _ _)).kept q1
    clear hp q1
    have hown:=hp1.own
    have hsz:=hp1.below.size
    go_wp2_with (at_builtin;refine wpList_append_own _ rfl (.tmp 24) (.tmp 34) 63 rfl w.heap.size 9 i0 (.string ⟨#[]⟩) 1 16 Tryz.underlying63 hi hz0 hz1 hz2 rfl (by decide) _ _ _ rfl (hown.alloc _) ⟨w1.heap.size,0,none⟩ 1 1 [.string (b.extract s.place (s.place+s.size))] rfl rfl ?c1 ?c2 ?c3 ?c4 ?c5 ?_)
    case c1=>exact one_cell _ _ _
    case c2=>exact one_str _
    case c3=>unfold maxLen;omega
    case c4=>omega
    case c5=>simp;omega
    intro v' w' hown' hgrow _
    obtain ⟨ao3,cap3,hv⟩:=own_form hown'
    rw [hv] at hown'
    rw [hv]
    have hp2:=hp1.push _ _ hgrow hown'
    clear hown' hgrow hown hv
    go_wp2_with fail
    go_roundw
    case rel=>exact ⟨PP.length+1,ao3,cap3,by omega,by go_num,by go_num,by rw [HS.out];exact hp2⟩
    case measure=>simp [intOf];omega
   ·have PC:Hid _:=puts_yes s hz
    simp only [M.St.val] at PC
    have htx:s.text b=s.put:=by simp [M.St.text,hz]
    rw [htx] at HS
    clear hR htx
    go_wp2_with fail
    refine (PC.out _).mono ?_
    rintro e w1 ⟨rfl,q1⟩
    have d0:w1.cell? ⟨wr.heap.size,0,none⟩=some (.string s.put):=(q1.below.cell (p:=⟨wr.heap.size,0,none⟩) (by simp)).trans (by simp)
    have hp1:=(hp.kept ((Q.refl wr).alloc _ _)).kept q1
    clear hp q1
    have hown:=hp1.own
    have hsz:=hp1.below.size
    go_wp2_with (at_builtin;refine wpList_append_own _ rfl (.tmp 19) (.tmp 22) 63 rfl w.heap.size 9 i0 (.string ⟨#[]⟩) 1 16 Tryz.underlying63 hi hz0 hz1 hz2 rfl (by decide) _ _ _ rfl (hown.alloc _) ⟨w1.heap.size,0,none⟩ 1 1 [.string s.put] rfl rfl ?c1 ?c2 ?c3 ?c4 ?c5 ?_)
    case c1=>exact one_cell _ _ _
    case c2=>exact one_str _
    case c3=>unfold maxLen;omega
    case c4=>omega
    case c5=>simp;omega
    intro v' w' hown' hgrow _
    obtain ⟨ao3,cap3,hv⟩:=own_form hown'
    rw [hv] at hown'
    rw [hv]
    have hp2:=hp1.push _ _ hgrow hown'
    clear hown' hgrow hown hv
    go_wp2_with fail
    go_roundw
    case rel=>exact ⟨PP.length+1,ao3,cap3,by omega,by go_num,by go_num,by rw [HS.out];exact hp2⟩
    case measure=>simp [intOf];omega
  ·obtain rfl:k=L.length:=by omega
   rw [HE.out] at hp
   have JC:=join_any _ ap cp wr (own_strs hp.own).2 (by omega) (by simp;omega)
   rw [List.length_map] at JC
   have HJ:Hid _:=fun (_:Unit)=>JC
   have HQ:Hid _:=fun (_:Unit)=>hp.below
   clear JC hp hrun hp0 hkl
   go_wp2_with fail
   refine (HJ.out ()).mono ?_
   rintro e w1 ⟨rfl,q1⟩
   go_wp2_with fail
   go_ret
   exact ⟨by rw [←HC.out ()];rfl,(Q.mk (HQ.out ())).trans q1⟩
def M.stepOf (s:ByteArray) (a:Nat):Option (M.St × Nat):=
 match M.getAt s.data.toList a with
 | none=>none
 | some (u,nx) =>
  if u / 2=0 then none
  else if u % 2=0 then (if s.size-nx<u / 2 then none else some (⟨s.extract nx (nx+u / 2),0,u / 2⟩,nx+u / 2))
  else
   match M.getAt s.data.toList nx with
   | none=>none
   | some (p,n2)=>if 72057594037927935-u / 2<p then none else some (⟨⟨#[]⟩,p,u / 2⟩,n2)
def stepEnd (r:Option (M.St × Nat)):Ending:=
 match r with
 | none=>.returned (.tuple #[.agg #[.string ⟨#[]⟩,.int .i64 0,.int .i64 0],.int .i64 0,.bool false])
 | some (s,a)=>.returned (.tuple #[.agg #[.string s.put,.int .i64 (s.place:Int),.int .i64 (s.size:Int)],.int .i64 (a:Int),.bool true])
theorem readStep_any (s:ByteArray) (hs:s.size≤140737488351232) (a:Nat) (w:World) :
  Calls Tryz.prog 179 #[.string s,.int .i64 a] w fun e w'=>e=stepEnd (M.stepOf s a)∧Q w w':=by
 have hl:s.data.toList.length=s.size:=by simp
 cases hg:M.getAt s.data.toList a with
 | none =>
  have E:M.stepOf s a=none:=by unfold M.stepOf;rw [hg]
  rw [E]
  have G:Hid _:=get_none s a hs hg
  clear hg E hl
  go_enter Tryz.func179,Tryz.ntmps179
  go_wp2_with fail
  refine (G.out _).mono ?_
  rintro e w1 ⟨rfl,rfl⟩
  go_wp2_with fail
  refine bodyPost_ret (v:=.tuple #[.agg #[.string ⟨#[]⟩,.int .i64 0,.int .i64 0],.int .i64 0,.bool false]) (by simp [results,Tryz.results179,go_sem]) rfl ?_
  exact ⟨rfl,(Q.refl w).alloc _ _⟩
 | some p =>
  obtain ⟨u,nx⟩:=p
  have hb:=M.getAt_bound hg
  have G:Hid _:=get_some s a u nx hs hg
  have hu2:((u / 2:Nat):Int)=(u:Int) / 2:=by omega
  by_cases h0:u / 2=0
  ·have E:M.stepOf s a=none:=by unfold M.stepOf;rw [hg];simp only;rw [if_pos h0]
   rw [E]
   have t0:((u:Int) / 2)=0:=by omega
   clear hg E
   go_enter Tryz.func179,Tryz.ntmps179
   go_wp2_with fail
   refine (G.out _).mono ?_
   rintro e w1 ⟨rfl,rfl⟩
   go_wp2_with fail
   refine bodyPost_ret (v:=.tuple #[.agg #[.string ⟨#[]⟩,.int .i64 0,.int .i64 0],.int .i64 0,.bool false]) (by simp [results,Tryz.results179,go_sem]) rfl ?_
   exact ⟨rfl,(Q.refl w).alloc _ _⟩
  ·by_cases hev:u % 2=0
   ·have t1:((u:Int) % 2 == 0)=true:=by simp;omega
    have t0:((u:Int) / 2 == 0)=false:=by simp;omega
    by_cases hlong:s.size-nx<u / 2
    ·have E:M.stepOf s a=none:=by unfold M.stepOf;rw [hg];simp only;rw [if_neg h0,if_pos hev,if_pos hlong]
     rw [E]
     have t2:decide ((s.size:Int)-(nx:Int)<(u:Int) / 2)=true:=by simp;omega
     clear hg E
     go_enter Tryz.func179,Tryz.ntmps179
     go_wp2_with fail
     refine (G.out _).mono ?_
     rintro e w1 ⟨rfl,rfl⟩
     go_wp2_with fail
     refine bodyPost_ret (v:=.tuple #[.agg #[.string ⟨#[]⟩,.int .i64 0,.int .i64 0],.int .i64 0,.bool false]) (by simp [results,Tryz.results179,go_sem]) rfl ?_
     exact ⟨rfl,(Q.refl w).alloc _ _⟩
    ·have E:M.stepOf s a=some (⟨s.extract nx (nx+u / 2),0,u / 2⟩,nx+u / 2):=by unfold M.stepOf;rw [hg];simp only;rw [if_neg h0,if_pos hev,if_neg hlong]
     rw [E]
     have t2:decide ((s.size:Int)-(nx:Int)<(u:Int) / 2)=false:=by simp;omega
     have hcs:=cut_str s nx (u / 2) (by omega)
     rw [hu2] at hcs
     have hsz:(s.extract nx (nx+u / 2)).size=u / 2:=by simp;omega
     have PS:=putStep_any (s.extract nx (nx+u / 2))
     rw [hsz,hu2] at PS
     have PH:Hid _:=PS
     generalize s.extract nx (nx+u / 2)=piece at *
     clear hg E PS
     go_enter Tryz.func179,Tryz.ntmps179
     go_wp2_with fail
     refine (G.out _).mono ?_
     rintro e w1 ⟨rfl,rfl⟩
     go_wp2_with fail
     refine (PH.out _).mono ?_
     rintro e w2 ⟨rfl,q2⟩
     obtain ⟨⟨x0,x1,x2⟩,⟨y0,y1,y2⟩⟩:=new3 q2
     go_wp2_with fail
     obtain ⟨z0,z1,z2⟩:=stored3 x0 x1 x2 (.string piece) (.int .i64 0) (.int .i64 ((u:Int) / 2))
     refine bodyPost_ret (v:=.tuple #[.agg #[.string piece,.int .i64 0,.int .i64 ((u:Int) / 2)],.int .i64 ((nx:Int)+(u:Int) / 2),.bool true]) (by simp [results,Tryz.results179,go_sem,z0,z1,z2]) rfl ?_
     exact ⟨by simp only [stepEnd,Int.natCast_add,hu2,Int.natCast_zero],(((Q.refl w).alloc _ _).trans q2).set3 (Nat.le_refl _) _ _ _⟩
   ·have t1:((u:Int) % 2 == 0)=false:=by simp;omega
    have t0:((u:Int) / 2 == 0)=false:=by simp;omega
    cases hg2:M.getAt s.data.toList nx with
    | none =>
     have E:M.stepOf s a=none:=by unfold M.stepOf;rw [hg];simp only;rw [if_neg h0,if_neg hev,hg2]
     rw [E]
     have G2:Hid _:=get_none s nx hs hg2
     clear hg hg2 E
     go_enter Tryz.func179,Tryz.ntmps179
     go_wp2_with fail
     refine (G.out _).mono ?_
     rintro e w1 ⟨rfl,rfl⟩
     go_wp2_with fail
     refine (G2.out _).mono ?_
     rintro e w1 ⟨rfl,rfl⟩
     go_wp2_with fail
     refine bodyPost_ret (v:=.tuple #[.agg #[.string ⟨#[]⟩,.int .i64 0,.int .i64 0],.int .i64 0,.bool false]) (by simp [results,Tryz.results179,go_sem]) rfl ?_
     exact ⟨rfl,(Q.refl w).alloc _ _⟩
    | some p =>
     obtain ⟨p,n2⟩:=p
     have hb2:=M.getAt_bound hg2
     have G2:Hid _:=get_some s nx p n2 hs hg2
     by_cases hfar:72057594037927935-u / 2<p
     ·have E:M.stepOf s a=none:=by unfold M.stepOf;rw [hg];simp only;rw [if_neg h0,if_neg hev,hg2];simp only;rw [if_pos hfar]
      rw [E]
      have t2:decide (72057594037927935-(u:Int) / 2<(p:Int))=true:=by simp;omega
      clear hg hg2 E
      go_enter Tryz.func179,Tryz.ntmps179
      go_wp2_with fail
      refine (G.out _).mono ?_
      rintro e w1 ⟨rfl,rfl⟩
      go_wp2_with fail
      refine (G2.out _).mono ?_
      rintro e w1 ⟨rfl,rfl⟩
      go_wp2_with fail
      refine bodyPost_ret (v:=.tuple #[.agg #[.string ⟨#[]⟩,.int .i64 0,.int .i64 0],.int .i64 0,.bool false]) (by simp [results,Tryz.results179,go_sem]) rfl ?_
      exact ⟨rfl,(Q.refl w).alloc _ _⟩
     ·have E:M.stepOf s a=some (⟨⟨#[]⟩,p,u / 2⟩,n2):=by unfold M.stepOf;rw [hg];simp only;rw [if_neg h0,if_neg hev,hg2];simp only;rw [if_neg hfar]
      rw [E]
      have t2:decide (72057594037927935-(u:Int) / 2<(p:Int))=false:=by simp;omega
      have TS:=takeStep_any (p:Int) ((u / 2:Nat):Int)
      rw [hu2] at TS
      have TH:Hid _:=TS
      clear hg hg2 E TS
      go_enter Tryz.func179,Tryz.ntmps179
      go_wp2_with fail
      refine (G.out _).mono ?_
      rintro e w1 ⟨rfl,rfl⟩
      go_wp2_with fail
      refine (G2.out _).mono ?_
      rintro e w1 ⟨rfl,rfl⟩
      go_wp2_with fail
      refine (TH.out _).mono ?_
      rintro e w2 ⟨rfl,q2⟩
      obtain ⟨⟨x0,x1,x2⟩,⟨y0,y1,y2⟩⟩:=new3 q2
      go_wp2_with fail
      obtain ⟨z0,z1,z2⟩:=stored3 x0 x1 x2 (.string ⟨#[]⟩) (.int .i64 (p:Int)) (.int .i64 ((u:Int) / 2))
      refine bodyPost_ret (v:=.tuple #[.agg #[.string ⟨#[]⟩,.int .i64 (p:Int),.int .i64 ((u:Int) / 2)],.int .i64 (n2:Int),.bool true]) (by simp [results,Tryz.results179,go_sem,z0,z1,z2]) rfl ?_
      exact ⟨by simp only [stepEnd,hu2],(((Q.refl w).alloc _ _).trans q2).set3 (Nat.le_refl _) _ _ _⟩
def endVals (L:List M.St):List Value:=(List.range L.length).map fun k=>Value.int .i64 (M.tot (L.take (k+1)):Nat)
theorem endVals_length (L:List M.St):(endVals L).length=L.length:=by simp [endVals]
theorem endVals_get (L:List M.St) (k:Nat) (hk:k<L.length):(endVals L)[k]?=some (.int .i64 (M.tot (L.take (k+1)):Nat)):=by simp [endVals,hk]
theorem endVals_snoc (L:List M.St) (s:M.St):endVals (L++[s])=endVals L++[.int .i64 ((M.tot L+s.size:Nat):Int)]:=by
 unfold endVals
 rw [List.length_append,List.length_singleton,List.range_succ,List.map_append]
 congr 1
 ·apply List.map_congr_left
  intro k hk
  have:k<L.length:=by simpa using hk
  rw [List.take_append_of_le_length (by omega)]
 ·simp only [List.map_cons,List.map_nil]
  rw [List.take_of_length_le (by simp),M.tot_append,M.tot_one]
def Ends (w:World) (ao:Option Addr) (L:List M.St):Prop:=L=[]∨∃ g,ao=some ⟨g,0,none⟩∧g<w.heap.size∧∀ k,k<L.length→w.cell? ⟨g,k,none⟩=some (.int .i64 (M.tot (L.take (k+1)):Nat))
theorem Ends.kept {w w':World} {ao:Option Addr} {L:List M.St} (h:Ends w ao L) (q:Q w w'):Ends w' ao L:=by
 rcases h with h|⟨g,rfl,hg,hs⟩
 ·exact Or.inl h
 ·exact Or.inr ⟨g,rfl,by have:=q.below.size;omega,fun k hk=>(q.below.cell (p:=⟨g,k,none⟩) hg).trans (hs k hk)⟩
theorem own_ends {w:World} {base:Nat} {ao:Option Addr} {cap:Nat} {L:List M.St} (h:w.ownsRow base 3 1 (.slice ao L.length cap) L.length (endVals L)):Ends w ao L:=by
 by_cases hL:L=[]
 ·exact Or.inl hL
 ·obtain ⟨g,rfl,_,hlt,hc⟩:=own_cells h (by
   intro e
   have h1:=endVals_length L
   rw [e,List.length_nil] at h1
   exact hL (List.eq_nil_of_length_eq_zero h1.symm))
  exact Or.inr ⟨g,rfl,hlt,fun k hk=>hc k _ (endVals_get L k hk)⟩
theorem length_any (L:List M.St) (so eo:Option Addr) (n sc ec:Nat) (w:World) (h:Ends w eo L) (hl:L.length≤4096) :
  Calls Tryz.prog 180 #[.agg #[.slice so n sc,.slice eo L.length ec]] w fun e w'=>e=.returned (.int .i64 (M.tot L:Nat))∧Q w w':=by
 by_cases h0:L.length=0
 ·obtain rfl:=List.eq_nil_of_length_eq_zero h0
  clear h
  simp only [List.length_nil,M.tot]
  go_enter Tryz.func180,Tryz.ntmps180
  go_wp2_with fail
  go_ret
  exact ⟨rfl,(Q.refl w).alloc _ _⟩
 ·have hne:L≠[]:=fun e=>h0 (by rw [e];rfl)
  rcases h with h|⟨g,rfl,hg,hs⟩
  ·exact absurd h hne
  ·have hc:=hs (L.length-1) (by omega)
   rw [show L.length-1+1=L.length by omega,List.take_length] at hc
   have t0:((L.length:Int) == 0)=false:=by simp;omega
   have t1:((L.length:Int)-1).toNat=L.length-1:=by omega
   have t2:(0:Int)≤(L.length:Int)-1:=by omega
   have t3:(L.length:Int)-1<(L.length:Int):=by omega
   have hc2:=(((Below.refl _ w).alloc (o:=.cells #[.slice so n sc,.slice (some ⟨g,0,none⟩) L.length ec] 215) (Nat.le_refl _)).cell (p:=⟨g,L.length-1,none⟩) hg).trans hc
   clear hs hc hne
   go_enter Tryz.func180,Tryz.ntmps180
   go_wp2_with fail
   go_ret
   exact ⟨rfl,(Q.refl w).alloc _ _⟩
theorem own_apart {w:World} {b1 b2:Nat} {e1 e2:TypeId} {s1 s2:Nat} {v1 v2:Value} {n1 n2:Nat} {x1 x2:List Value} (h1:w.ownsRow b1 e1 s1 v1 n1 x1) (h2:w.ownsRow b2 e2 s2 v2 n2 x2) (hne:e1≠e2):v1.ownBlock=none∨v1.ownBlock≠v2.ownBlock:=by
 rcases h1.2 with ⟨rfl,_⟩|⟨g,c,cur,rfl,_,hg,_⟩
 ·exact Or.inl rfl
 ·rcases h2.2 with ⟨rfl,_⟩|⟨g',c',cur',rfl,_,hg',_⟩
  ·exact Or.inr (by simp [Value.ownBlock])
  ·refine Or.inr ?_
   simp only [Value.ownBlock,ne_eq,Option.some.injEq]
   rintro rfl
   rw [hg] at hg'
   simp only [Option.some.injEq,Obj.cells.injEq] at hg'
   exact hne hg'.2.1
structure Rd (w:World) (L E:List M.St) (so eo:Option Addr) (sc ec:Nat) (wr:World):Prop where
 below:Below w.heap.size w wr
 r0:wr.cell? ⟨w.heap.size,0,none⟩=some (.slice none 0 0)
 r1:wr.cell? ⟨w.heap.size,1,none⟩=some (.slice none 0 0)
 f0:wr.frozen? ⟨w.heap.size,0,none⟩=false
 f1:wr.frozen? ⟨w.heap.size,1,none⟩=false
 c0:wr.cell? ⟨w.heap.size+1,0,none⟩=some (.slice so L.length sc)
 c1:wr.cell? ⟨w.heap.size+1,1,none⟩=some (.slice eo E.length ec)
 g0:wr.frozen? ⟨w.heap.size+1,0,none⟩=false
 g1:wr.frozen? ⟨w.heap.size+1,1,none⟩=false
 ownS:wr.ownsRow (w.heap.size+2) 241 3 (.slice so L.length sc) L.length (cellsOf L)
 ownE:wr.ownsRow (w.heap.size+2) 3 1 (.slice eo E.length ec) E.length (endVals E)
 top:w.heap.size+2≤wr.heap.size
theorem Rd.kept {w wr wr':World} {L E:List M.St} {so eo:Option Addr} {sc ec:Nat} (h:Rd w L E so eo sc ec wr) (q:Q wr wr'):Rd w L E so eo sc ec wr':=by
 have ht:=h.top
 have cl:∀ (b o:Nat),b<wr.heap.size→wr'.cell? ⟨b,o,none⟩=wr.cell? ⟨b,o,none⟩:=fun b o hlt=>q.below.cell (p:=⟨b,o,none⟩) hlt
 have fr:∀ (b o:Nat),b<wr.heap.size→wr'.frozen? ⟨b,o,none⟩=wr.frozen? ⟨b,o,none⟩:=fun b o hlt=>q.below.frozen (p:=⟨b,o,none⟩) hlt
 exact ⟨h.below.trans (q.below.mono (by omega)),(cl _ _ (by omega)).trans h.r0,(cl _ _ (by omega)).trans h.r1,(fr _ _ (by omega)).trans h.f0,(fr _ _ (by omega)).trans h.f1,
  (cl _ _ (by omega)).trans h.c0,(cl _ _ (by omega)).trans h.c1,(fr _ _ (by omega)).trans h.g0,(fr _ _ (by omega)).trans h.g1,own_below h.ownS q.below,own_below h.ownE q.below,by have:=q.below.size;omega⟩
theorem Rd.start (w:World):Rd w [] [] none none 0 0 ((w.alloc (.cells #[.slice none 0 0,.slice none 0 0] 215)).alloc (.cells #[.slice none 0 0,.slice none 0 0] 215)):=by
 have hsz:(w.alloc (.cells #[.slice none 0 0,.slice none 0 0] 215)).heap.size=w.heap.size+1:=by simp
 obtain ⟨⟨x0,x1⟩,⟨y0,y1⟩⟩:=new2 ((Q.refl (w.alloc (.cells #[.slice none 0 0,.slice none 0 0] 215))).alloc #[.slice none 0 0,.slice none 0 0] 215)
 obtain ⟨⟨z0,z1⟩,⟨v0,v1⟩⟩:=new2 (Q.refl ((w.alloc (.cells #[.slice none 0 0,.slice none 0 0] 215)).alloc (.cells #[.slice none 0 0,.slice none 0 0] 215)))
 rw [hsz] at z0 z1 v0 v1
 exact ⟨((Below.refl _ w).alloc (Nat.le_refl _) _).alloc (by simp) _,x0,x1,y0,y1,z0,z1,v0,v1,World.ownsRow_nil _ _ _ _,World.ownsRow_nil _ _ _ _,by simp⟩
theorem Rd.stored {w wr:World} {L E:List M.St} {so eo:Option Addr} {sc ec:Nat} (h:Rd w L E so eo sc ec wr) (a b:Value) :
  ((wr.setCell ⟨w.heap.size,0,none⟩ a).setCell ⟨w.heap.size,1,none⟩ b).cell? ⟨w.heap.size,0,none⟩=some a ∧
  ((wr.setCell ⟨w.heap.size,0,none⟩ a).setCell ⟨w.heap.size,1,none⟩ b).cell? ⟨w.heap.size,1,none⟩=some b ∧
  Q w ((wr.setCell ⟨w.heap.size,0,none⟩ a).setCell ⟨w.heap.size,1,none⟩ b) ∧
  Steps ((wr.setCell ⟨w.heap.size,0,none⟩ a).setCell ⟨w.heap.size,1,none⟩ b) so L ∧
  Ends ((wr.setCell ⟨w.heap.size,0,none⟩ a).setCell ⟨w.heap.size,1,none⟩ b) eo E:=by
 obtain ⟨k0,k1⟩:=stored2 h.r0 h.r1 a b
 exact ⟨k0,k1,(Q.mk h.below).set2 (Nat.le_refl _) a b,
  own_steps (ownsRow_setCell_below (ownsRow_setCell_below h.ownS (a:=⟨w.heap.size,0,none⟩) (by show w.heap.size<_;omega) a) (a:=⟨w.heap.size,1,none⟩) (by show w.heap.size<_;omega) b),
  own_ends (ownsRow_setCell_below (ownsRow_setCell_below h.ownE (a:=⟨w.heap.size,0,none⟩) (by show w.heap.size<_;omega) a) (a:=⟨w.heap.size,1,none⟩) (by show w.heap.size<_;omega) b)⟩
theorem Rd.pushE {w wr w':World} {L E:List M.St} {so eo eo':Option Addr} {sc ec ec':Nat} (h:Rd w L E so eo sc ec wr) (s:M.St) (x:Int) (hx:x=((M.tot E+s.size:Nat):Int))
  (hg:wr.grownBy w' (Value.slice eo E.length ec).ownBlock)
  (ho:w'.ownsRow (w.heap.size+2) 3 1 (.slice eo' (E.length+1) ec') (E.length+1) (endVals E++[.int .i64 x])) :
  w'.cell? ⟨w.heap.size+1,1,none⟩=some (.slice eo E.length ec)∧w'.frozen? ⟨w.heap.size+1,1,none⟩=false ∧
  Rd w L (E++[s]) so eo' sc ec' (w'.setCell ⟨w.heap.size+1,1,none⟩ (.slice eo' (E.length+1) ec')):=by
 subst hx
 have ht:=h.top
 have hb:Below (w.heap.size+2) wr w':=(Below.refl _ wr).grown hg ht (own_base h.ownE)
 have cl:∀ (b o:Nat),b<w.heap.size+2→w'.cell? ⟨b,o,none⟩=wr.cell? ⟨b,o,none⟩:=fun b o hl=>hb.cell (p:=⟨b,o,none⟩) hl
 have fr:∀ (b o:Nat),b<w.heap.size+2→w'.frozen? ⟨b,o,none⟩=wr.frozen? ⟨b,o,none⟩:=fun b o hl=>hb.frozen (p:=⟨b,o,none⟩) hl
 have k1:=(cl _ 1 (by omega)).trans h.c1
 have oc:∀ (b o:Nat),b<w.heap.size+2→(b≠w.heap.size+1∨o≠1)→(w'.setCell ⟨w.heap.size+1,1,none⟩ (.slice eo' (E.length+1) ec')).cell? ⟨b,o,none⟩=wr.cell? ⟨b,o,none⟩:=fun b o hl hn=>by
  rw [World.cell?_setCell_other _ _ _ _ (by intro e;injection e;omega)];exact cl b o hl
 have of:∀ (b o:Nat),b<w.heap.size+2→(w'.setCell ⟨w.heap.size+1,1,none⟩ (.slice eo' (E.length+1) ec')).frozen? ⟨b,o,none⟩=wr.frozen? ⟨b,o,none⟩:=fun b o hl=>by
  rw [World.frozen?_setCell];exact fr b o hl
 refine ⟨k1,(fr _ 1 (by omega)).trans h.g1,⟨(h.below.trans (hb.mono (by omega))).setCell (by show w.heap.size≤w.heap.size+1;omega) _,(oc _ _ (by omega) (by omega)).trans h.r0,(oc _ _ (by omega) (by omega)).trans h.r1,(of _ _ (by omega)).trans h.f0,(of _ _ (by omega)).trans h.f1,(oc _ _ (by omega) (by omega)).trans h.c0,?_,(of _ _ (by omega)).trans h.g0,(of _ _ (by omega)).trans h.g1,?_,?_,?_⟩⟩
 ·rw [World.cell?_setCell_same _ _ _ k1];simp
 ·exact ownsRow_setCell_below (h.ownS.kept hg (own_apart h.ownS h.ownE (by decide))) (a:=⟨w.heap.size+1,1,none⟩) (by show w.heap.size+1<_;omega) _
 ·have:=ownsRow_setCell_below ho (a:=⟨w.heap.size+1,1,none⟩) (by show w.heap.size+1<w.heap.size+2;omega) (.slice eo' (E.length+1) ec')
  rw [endVals_snoc,List.length_append];exact this
 ·have:=hb.size;simp;omega
theorem Rd.pushS {w wr w':World} {L E:List M.St} {so so' eo:Option Addr} {sc sc' ec:Nat} (h:Rd w L E so eo sc ec wr) (s:M.St)
  (hg:wr.grownBy w' (Value.slice so L.length sc).ownBlock)
  (ho:w'.ownsRow (w.heap.size+2) 241 3 (.slice so' (L.length+1) sc') (L.length+1) (cellsOf L++s.cells)) :
  w'.cell? ⟨w.heap.size+1,0,none⟩=some (.slice so L.length sc)∧w'.frozen? ⟨w.heap.size+1,0,none⟩=false ∧
  Rd w (L++[s]) E so' eo sc' ec (w'.setCell ⟨w.heap.size+1,0,none⟩ (.slice so' (L.length+1) sc')):=by
 have ht:=h.top
 have hb:Below (w.heap.size+2) wr w':=(Below.refl _ wr).grown hg ht (own_base h.ownS)
 have cl:∀ (b o:Nat),b<w.heap.size+2→w'.cell? ⟨b,o,none⟩=wr.cell? ⟨b,o,none⟩:=fun b o hl=>hb.cell (p:=⟨b,o,none⟩) hl
 have fr:∀ (b o:Nat),b<w.heap.size+2→w'.frozen? ⟨b,o,none⟩=wr.frozen? ⟨b,o,none⟩:=fun b o hl=>hb.frozen (p:=⟨b,o,none⟩) hl
 have k1:=(cl _ 0 (by omega)).trans h.c0
 have oc:∀ (b o:Nat),b<w.heap.size+2→(b≠w.heap.size+1∨o≠0)→(w'.setCell ⟨w.heap.size+1,0,none⟩ (.slice so' (L.length+1) sc')).cell? ⟨b,o,none⟩=wr.cell? ⟨b,o,none⟩:=fun b o hl hn=>by
  rw [World.cell?_setCell_other _ _ _ _ (by intro e;injection e;omega)];exact cl b o hl
 have of:∀ (b o:Nat),b<w.heap.size+2→(w'.setCell ⟨w.heap.size+1,0,none⟩ (.slice so' (L.length+1) sc')).frozen? ⟨b,o,none⟩=wr.frozen? ⟨b,o,none⟩:=fun b o hl=>by
  rw [World.frozen?_setCell];exact fr b o hl
 refine ⟨k1,(fr _ 0 (by omega)).trans h.g0,⟨(h.below.trans (hb.mono (by omega))).setCell (by show w.heap.size≤w.heap.size+1;omega) _,(oc _ _ (by omega) (by omega)).trans h.r0,(oc _ _ (by omega) (by omega)).trans h.r1,(of _ _ (by omega)).trans h.f0,(of _ _ (by omega)).trans h.f1,?_,(oc _ _ (by omega) (by omega)).trans h.c1,(of _ _ (by omega)).trans h.g0,(of _ _ (by omega)).trans h.g1,?_,?_,?_⟩⟩
 ·rw [World.cell?_setCell_same _ _ _ k1];simp
 ·have:=ownsRow_setCell_below ho (a:=⟨w.heap.size+1,0,none⟩) (by show w.heap.size+1<w.heap.size+2;omega) (.slice so' (L.length+1) sc')
  rw [cellsOf_append,cellsOf_one,List.length_append];exact this
 ·exact ownsRow_setCell_below (h.ownE.kept hg (own_apart h.ownE h.ownS (by decide))) (a:=⟨w.heap.size+1,0,none⟩) (by show w.heap.size+1<_;omega) _
 ·have:=hb.size;simp;omega
theorem step_none {s:ByteArray} {a size:Nat} {acc:List Nat} (h:M.stepOf s a=none):M.stepAt s.data.toList size a acc=none:=by
 unfold M.stepOf at h
 unfold M.stepAt
 cases hg:M.getAt s.data.toList a with
 | none=>rfl
 | some p =>
  obtain ⟨u,nx⟩:=p
  have hb:=M.getAt_bound hg
  have hl:s.data.toList.length=s.size:=by simp
  rw [hg] at h
  simp only at h ⊢
  by_cases h0:u / 2<1∨size-acc.length<u / 2
  ·rw [if_pos h0]
  ·rw [if_neg (by omega)] at h
   rw [if_neg h0]
   by_cases hev:u % 2=0
   ·rw [if_pos hev] at h
    rw [if_neg (by omega)]
    split at h
    ·rw [if_neg (by omega)]
    ·simp at h
   ·rw [if_neg hev] at h
    rw [if_pos (by omega)]
    cases hg2:M.getAt s.data.toList nx with
    | none=>rfl
    | some q =>
     obtain ⟨p,n2⟩:=q
     rw [hg2] at h
     simp only at h ⊢
     split at h
     ·rw [if_pos (by assumption)]
     ·simp at h
theorem step_some {s:ByteArray} {a a' size:Nat} {acc:List Nat} {st:M.St} (h:M.stepOf s a=some (st,a')) (hs:size≤4096) :
  (size-acc.length<st.size→M.stepAt s.data.toList size a acc=none) ∧
  (¬size-acc.length<st.size→M.stepAt s.data.toList size a acc=some (acc++st.acc,a')∧st.Good)∧a<a'∧a'≤s.size∧st.size<72057594037927936∧st.place<72057594037927936:=by
 unfold M.stepOf at h
 unfold M.stepAt
 cases hg:M.getAt s.data.toList a with
 | none=>rw [hg] at h;simp at h
 | some p =>
  obtain ⟨u,nx⟩:=p
  have hb:=M.getAt_bound hg
  have hl:s.data.toList.length=s.size:=by simp
  rw [hg] at h
  simp only at h ⊢
  by_cases h0:u / 2=0
  ·rw [if_pos h0] at h;simp at h
  ·rw [if_neg h0] at h
   by_cases hev:u % 2=0
   ·rw [if_pos hev] at h
    split at h
    ·simp at h
    ·rename_i hlong
     simp only [Option.some.injEq,Prod.mk.injEq] at h
     obtain ⟨rfl,rfl⟩:=h
     have hsz:(s.extract nx (nx+u / 2)).size=u / 2:=by simp;omega
     refine ⟨fun hx=>by rw [if_pos (by simp only at hx;omega)],fun hx=>?_,by omega,by omega,by simp only;omega,by simp only;omega⟩
     simp only at hx
     refine ⟨?_,Or.inr ⟨by simp only;omega,by simp only;omega,rfl,by simp only;omega⟩⟩
     rw [if_neg (by omega),if_neg (by omega),if_pos (by omega)]
     simp only [Option.some.injEq,Prod.mk.injEq,and_true]
     unfold M.St.acc M.putB
     rw [if_neg (by simp only;omega)]
     simp [ByteArray.data_extract]
   ·rw [if_neg hev] at h
    cases hg2:M.getAt s.data.toList nx with
    | none=>rw [hg2] at h;simp at h
    | some q =>
     obtain ⟨p,n2⟩:=q
     have hb2:=M.getAt_bound hg2
     rw [hg2] at h
     simp only at h
     split at h
     ·simp at h
     ·simp only [Option.some.injEq,Prod.mk.injEq] at h
      obtain ⟨rfl,rfl⟩:=h
      refine ⟨fun hx=>by rw [if_pos (by simp only at hx;omega)],fun hx=>?_,by omega,by omega,by simp only;omega,by simp only;omega⟩
      simp only at hx
      refine ⟨?_,Or.inl ⟨rfl,by simp only;omega,by simp only;omega,by simp only;omega⟩⟩
      rw [if_neg (by omega),if_pos (by omega)]
      simp only
      rw [if_neg (by omega)]
      simp only [Option.some.injEq,Prod.mk.injEq,and_true]
      unfold M.St.acc
      rw [if_pos (by rfl)]
def leads (s t:M.St):Bool:=if s.put.size=0∧t.put.size=0 then decide (s.place+s.size=t.place) else decide (s.put.size≠0∧t.put.size≠0)
theorem leads_iff (s t:M.St):leads s t=true↔M.Leads s t:=by
 unfold leads M.Leads
 split<;>simp
theorem leadsTo_any (s t:M.St) (hs:s.place+s.size≤72057594037927935) (w:World) :
  Calls Tryz.prog 183 #[.agg #[.string s.put,.int .i64 (s.place:Int),.int .i64 (s.size:Int)],.agg #[.string t.put,.int .i64 (t.place:Int),.int .i64 (t.size:Int)]] w fun e w'=>e=.returned (.bool (leads s t))∧Q w w':=by
 obtain ⟨W0,hW0⟩:∃ W0,W0=(w.alloc (.cells #[.string s.put,.int .i64 (s.place:Int),.int .i64 (s.size:Int)] 241)).alloc (.cells #[.string t.put,.int .i64 (t.place:Int),.int .i64 (t.size:Int)] 241):=⟨_,rfl⟩
 have hQ:Q w W0:=by rw [hW0];exact ((Q.refl w).alloc _ _).alloc _ _
 obtain ⟨⟨X0,X1,X2⟩,-⟩:=new3 (w:=w) (w2:=W0) (by rw [hW0];exact (Q.refl _).alloc _ _)
 obtain ⟨⟨Y0,Y1,Y2⟩,-⟩:=new3 (w2:=W0) (by rw [hW0];exact Q.refl _)
 rw [World.size_alloc] at Y0 Y1 Y2
 rw [hW0] at hQ X0 X1 X2 Y0 Y1 Y2
 clear hW0 W0
 have T0:(s.place:Int)+(s.size:Int)≤72057594037927935:=by omega
 cases h1:isPut s.put<;>cases h2:isPut t.put
 ·have h1':=h1
  have h2':=h2
  rw [isPut_no] at h1' h2'
  have E:Hid (leads s t=decide (s.place+s.size=t.place)):=by unfold leads;rw [if_pos ⟨h1',h2'⟩];exact rfl
  have tt:((s.place:Int)+(s.size:Int) == (t.place:Int))=decide (s.place+s.size=t.place):=by
   rw [Bool.eq_iff_iff];simp;omega
  clear h1' h2'
  go_enter Tryz.func183,Tryz.ntmps183
  go_wp2_with (go_at_call 181;refine (puts_gen _ _ _ _).mono ?_;rintro e w1 ⟨rfl,q1⟩;replace hQ:=hQ.trans q1;replace X0:=kept_cell X0 q1;replace X1:=kept_cell X1 q1;replace X2:=kept_cell X2 q1;replace Y0:=kept_cell Y0 q1;replace Y1:=kept_cell Y1 q1;replace Y2:=kept_cell Y2 q1;clear q1)
  go_ret
  exact ⟨by rw [E.out];rfl,hQ⟩
 all_goals
  have h1':=h1
  have h2':=h2
  simp only [isPut_no,isPut_yes] at h1' h2'
  have E:Hid (leads s t=(isPut s.put && isPut t.put)):=by unfold leads isPut;rw [if_neg (by omega)];exact Bool.decide_and _ _
  clear h1' h2'
  go_enter Tryz.func183,Tryz.ntmps183
  go_wp2_with (go_at_call 181;refine (puts_gen _ _ _ _).mono ?_;rintro e w1 ⟨rfl,q1⟩;replace hQ:=hQ.trans q1;replace X0:=kept_cell X0 q1;replace X1:=kept_cell X1 q1;replace X2:=kept_cell X2 q1;replace Y0:=kept_cell Y0 q1;replace Y1:=kept_cell Y1 q1;replace Y2:=kept_cell Y2 q1;clear q1)
  go_ret
  refine ⟨?_,hQ⟩
  rw [E.out,h1,h2]
  rfl
theorem strs_two (w:World) (a b:ByteArray) (t:TypeId):Strs (w.alloc (.cells #[.string a,.string b] t)) (some ⟨w.heap.size,0,none⟩) [a,b]:=by
 refine Or.inr ⟨w.heap.size,0,rfl,by simp,fun k s hk=>?_⟩
 match k,hk with
 | 0,hk=>simp at hk;subst hk;simp
 | 1,hk=>simp at hk;subst hk;simp
 | k+2,hk=>simp at hk
theorem join_two (a b:ByteArray) (cap:Nat) (w:World) (t:TypeId) (ha:a.size≤70000000000000) (hb:b.size≤70000000000000) :
  Calls Tryz.prog 129 #[.slice (some ⟨w.heap.size,0,none⟩) 2 cap] (w.alloc (.cells #[.string a,.string b] t)) fun e w'=>e=.returned (.string ⟨(a.data.toList++b.data.toList).toArray⟩)∧Q (w.alloc (.cells #[.string a,.string b] t)) w':=by
 have h:=join_any [a,b] (some ⟨w.heap.size,0,none⟩) cap _ (strs_two w a b t) (by simp [M.cat];omega) (by simp)
 have e:M.cat [a,b]=a.data.toList++b.data.toList:=by simp [M.cat]
 rw [e] at h
 exact h
theorem head_any (s:M.St) (L:List M.St) (ao:Option Addr) (cap:Nat) (w:World) (h:Steps w ao (s::L)) (hl:M.tot (s::L)≤4096) (hg:M.Goods (s::L)) :
  Calls Tryz.prog 184 #[.slice ao (s::L).length cap] w fun e w'=>e=.returned (.string ⟨(M.headOf (s::L)).toArray⟩)∧Q w w':=by
 obtain ⟨g,o,rfl,hgl,hc⟩:=h.at (k:=0) (by simp)
 obtain ⟨c0,c1,c2⟩:=hc 0 s rfl
 rw [show o+0*3=o by omega] at c0 c1 c2
 have hpos:=(hg s (by simp)).pos
 have MC:Hid _:=fun (_:Unit)=>made_any (s::L) (some ⟨g,o,none⟩) cap w h hl hg
 have hN:(s::L).length≠0:=by simp
 have hN2:(0:Int)<((s::L).length:Int):=by simp
 have hN3:=M.length_le_tot hg
 have E:Hid (M.headOf (s::L)=if s.put.size=0 then M.enc 7 (2*M.tot (s::L)+1)++M.enc 7 s.place else M.enc 7 (2*M.tot (s::L))):=rfl
 generalize M.headOf (s::L)=H at *
 generalize M.tot (s::L)=T at *
 generalize (s::L).length=N at *
 clear h hc hg
 have w1:IntKind.i64.wrap (2*(T:Int))=2*(T:Int):=by rw [IntKind.wrap_i64];omega
 have w2:IntKind.i64.wrap (2*(T:Int)+1)=2*(T:Int)+1:=by rw [IntKind.wrap_i64];omega
 by_cases h0:s.put.size=0
 ·have F:Hid (H=M.enc 7 (2*T+1)++M.enc 7 s.place):=by rw [E.out,if_pos h0];exact rfl
  have hi:isPut s.put=false:=isPut_no.2 h0
  have e1:=M.enc_two (n:=2*T+1) (by omega)
  have e2:=M.enc_len s.place
  clear h0
  go_enter Tryz.func184,Tryz.ntmps184
  go_wp2_with fail
  refine (MC.out ()).mono ?_
  rintro e v1 ⟨rfl,q1⟩
  have d0:=kept_cell c0 q1
  have d1:=kept_cell c1 q1
  have d2:=kept_cell c2 q1
  go_wp2_with fail
  refine (puts_gen _ _ _ _).mono ?_
  rintro e v2 ⟨rfl,q2⟩
  have f1:=kept_cell d1 q2
  have hQ:Q v2 v2.drew:=(Q.refl _).drew
  have hF:v2.drew.cell? ⟨g,o+1,none⟩=some (.int .i64 (s.place:Int)):=f1
  have hQ0:=q1.trans q2
  clear q1 q2 d0 d1 d2 c0 c1 c2
  have hn1:(2*(T:Int)+1).toNat=2*T+1:=by omega
  go_wp2_with fail
  go_region_with (first
   | (go_at_call 125;refine (number_int _ ?_ _).mono ?_;omega;rintro e v3 ⟨rfl,q3⟩;replace hQ:=hQ.trans q3;replace hF:=kept_cell hF q3;clear q3)
   | (go_at_call 129;refine (join_two _ _ _ _ _ ?_ ?_).mono ?_;simp [ByteArray.size];omega;simp [ByteArray.size];omega;rintro e v4 ⟨rfl,q4⟩))
  all_goals
   go_wp2_with fail
   go_ret
   refine ⟨?_,hQ0.trans ((hQ.alloc _ _).trans q4)⟩
   rw [F.out]
   rfl
 ·have F:Hid (H=M.enc 7 (2*T)):=by rw [E.out,if_neg h0];exact rfl
  have hi:isPut s.put=true:=isPut_yes.2 h0
  have N1:Hid _:=number_any (2*T) (by omega)
  rw [show ((2*T:Nat):Int)=2*(T:Int) by omega] at N1
  clear h0
  go_enter Tryz.func184,Tryz.ntmps184
  go_wp2_with fail
  refine (MC.out ()).mono ?_
  rintro e v1 ⟨rfl,q1⟩
  have d0:=kept_cell c0 q1
  have d1:=kept_cell c1 q1
  have d2:=kept_cell c2 q1
  go_wp2_with fail
  refine (puts_gen _ _ _ _).mono ?_
  rintro e v2 ⟨rfl,q2⟩
  go_wp2_with fail
  refine (N1.out _).mono ?_
  rintro e v3 ⟨rfl,q3⟩
  go_wp2_with fail
  go_ret
  exact ⟨by rw [F.out];rfl,(q1.trans q2).trans q3⟩
end Go.Proofs.YtekdenkllipehabGreatDoor
