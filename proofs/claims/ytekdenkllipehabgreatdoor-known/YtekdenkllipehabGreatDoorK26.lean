import Derived.Test.YtekdenkllipehabGreatDoorK25
import Derived.Laws.AppendOwnNone
set_option maxRecDepth 100000
set_option maxHeartbeats 8000000
namespace Go.Proofs.YtekdenkllipehabGreatDoor
open Go.RowKit
def findMeas (n d a:Nat):Nat:=2*(n-a)+(if d<a then 1 else 0)
theorem find_next {b t:ByteArray} {done at_ ahead place size:Nat} {C:List M.St} (hb:b.size≤4096) (ht:t.size≤4096) (hda:done≤at_) (hat:at_+4≤t.size) (hF:Found b t done C) (hS:Short b t done at_ C) (hL:Lg b t done at_ ahead place size) (hW:Whole b t done at_ ahead place size)
  (hpay:(⟨⟨#[]⟩,place,size⟩:M.St).cost+2≤size) :
  Found b t (at_-ahead+size) (C++putsOf (t.extract done (at_-ahead))++[⟨⟨#[]⟩,place,size⟩])∧Short b t (at_-ahead+size) (at_-ahead+size) (C++putsOf (t.extract done (at_-ahead))++[⟨⟨#[]⟩,place,size⟩]) ∧
  findMeas t.size (at_-ahead+size) (at_-ahead+size)<findMeas t.size done at_:=by
 have h1:=hL.h1
 have h2:=hL.h2
 have h3:=hL.h3
 have h4:=hL.h4
 have hz:(t.extract done (at_-ahead)).size=at_-ahead-done:=by simp;omega
 have hP:=hF.put (e:=at_-ahead) (by omega) (by omega) ht
 have hc:=hS.cost
 refine ⟨hP.take (by omega) h3 h4 hb hL.eq,⟨?_,?_⟩,?_⟩
 ·rw [M.cost_append,M.cost_append,M.cost_one]
  rcases putsOf_size (t.extract done (at_-ahead)) with h|h
  ·rw [hz] at h;omega
  ·omega
 ·intro e h5
  right
  rcases hS.same e h5 with ⟨ha,hd,hC⟩|⟨hd,_⟩
  ·obtain ⟨w1,w2,w3⟩:=hW e hd ha
   subst ha hd hC w1 w2 w3
   refine ⟨by rw [e];omega,?_⟩
   have hp:putsOf (t.extract 0 (0-0))=[]:=by unfold putsOf;rw [if_pos (by rw [hz])]
   rw [hp,List.nil_append,List.nil_append,M.cost_one]
   exact (whole_pays b.size h5 hb).2
  ·omega
 ·unfold findMeas
  rw [if_neg (by omega)]
  split<;>omega
theorem find_skip {b t:ByteArray} {done at_ ahead place size:Nat} {C:List M.St} (hb:b.size≤4096) (hda:done≤at_) (hat:at_+4≤t.size) (hS:Short b t done at_ C) (hW:Whole b t done at_ ahead place size)
  (hpay:¬(⟨⟨#[]⟩,place,size⟩:M.St).cost+2≤size):Short b t done (at_+1) C:=by
 refine ⟨hS.cost,fun e h5=>?_⟩
 rcases hS.same e h5 with ⟨ha,hd,hC⟩|⟨hd,h⟩
 ·obtain ⟨w1,w2,w3⟩:=hW e hd ha
  subst w1 w2 w3
  exact absurd (whole_pays b.size h5 hb).1 hpay
 ·omega
theorem find_end {b t:ByteArray} {done at_:Nat} {C:List M.St} (ht:t.size≤4096) (hat:¬at_+4≤t.size) (hF:Found b t done C) (hS:Short b t done at_ C):FindSaid b t (C++putsOf (t.extract done t.size)):=by
 have hle:=hF.le
 have hz:(t.extract done t.size).size=t.size-done:=by simp
 have hc:=hS.cost
 refine ⟨hF.put hle (Nat.le_refl _) ht,?_,fun e=>?_⟩
 ·rw [M.cost_append]
  rcases putsOf_size (t.extract done t.size) with h|h
  ·rw [hz] at h;omega
  ·omega
 ·by_cases h5:4≤b.size
  ·rcases hS.same e h5 with ⟨ha,_,_⟩|⟨hd,h6⟩
   ·rw [e] at h5;omega
   ·have hp:putsOf (t.extract done t.size)=[]:=by unfold putsOf;rw [if_pos (by omega)]
    rw [hp,List.append_nil];exact h6
  ·rw [M.cost_append]
   rw [e] at h5
   rcases putsOf_size (t.extract done t.size) with h|h
   ·rw [hz] at h;omega
   ·omega
theorem cell_grown_ne {wb w':World} {row:Option Nat} {p:Addr} {v:Value} (hg:wb.grownBy w' row) (h:wb.cell? p=some v) (hne:∀ k,row=some k→k≠p.block):w'.cell? p=some v:=
 (World.cell?_of_block (hg.block p.block (cell_lt h) (fun e=>hne p.block e.symm rfl))).trans h
theorem block_grown {wb w':World} {row:Option Nat} {V:Nat} {o:Obj} (hg:wb.grownBy w' row) (h:wb.heap[V]?=some o) (hne:∀ k,row=some k→k≠V):w'.heap[V]?=some o:=
 (hg.block V (Array.getElem?_eq_some_iff.1 h).1 (fun e=>hne V e.symm rfl)).trans h
theorem block_kept {w w':World} {V:Nat} {o:Obj} (h:w.heap[V]?=some o) (q:Q w w'):w'.heap[V]?=some o:=
 (q.below.block V (Array.getElem?_eq_some_iff.1 h).1).trans h
theorem row_apart {w:World} {V base n cap:Nat} {c:Array Value} {T e:TypeId} {fr:Nat × Nat} {ao:Option Addr} {xs:List Value} (hh:w.heap[V]?=some (.cells c T fr)) (hc:c.size=3) (ho:w.ownsRow base e 3 (.slice ao n cap) n xs) (hn:2≤n):∀ k,(Value.slice ao n cap).ownBlock=some k→k≠V:=by
 intro k hk e
 subst e
 rcases ho.2 with ⟨hv,h0⟩|⟨g,c',cur,hv,_,hg,hnc,_,hcs,_⟩
 ·omega
 ·rw [hv] at hk
  simp only [Value.ownBlock,Option.some.injEq] at hk
  subst hk
  rw [hh] at hg
  simp only [Option.some.injEq,Obj.cells.injEq] at hg
  rw [←hg.1,hc] at hcs
  omega
theorem own_lower {w:World} {b1 b2:Nat} {e:TypeId} {size:Nat} {v:Value} {n:Nat} {xs:List Value} (h:w.ownsRow b1 e size v n xs) (hb:b2≤b1):w.ownsRow b2 e size v n xs:=by
 refine ⟨h.1,?_⟩
 rcases h.2 with h2|⟨g,cap,cur,hv,hg,r⟩
 ·exact Or.inl h2
 ·exact Or.inr ⟨g,cap,cur,hv,by omega,r⟩
theorem find_any (b t:ByteArray) (hb:b.size≤4096) (ht:t.size≤4096) (w:World) :
  Calls Tryz.prog 160 #[.string b,.string t] w fun e w'=>∃ (C:List M.St) (ao:Option Addr) (cap:Nat),e=.returned (.slice ao C.length cap)∧(FindSaid b t C∧Steps w' ao C∧C.length≤cap)∧Q w w':=by
 have IX:Hid _:=index_any b hb
 have LO:Hid _:=fun (X done at_:Nat) (hd:done≤at_) (hat:at_+4≤t.size) (w':World) (h:Indexed w' X b)=>longest_any b t hb ht X done at_ hd hat w' h
 have PS:Hid _:=fun (e1 e2:Nat)=>putSteps_any (t.extract e1 e2)
 have HF0:Hid (Found b t 0 []):=Found.start b t
 have HS0:Hid (Short b t 0 0 []):=⟨by simp [M.cost],fun _ _=>Or.inl ⟨rfl,rfl,rfl⟩⟩
 obtain ⟨i1,hj,hy0,hy1,hy2⟩:=info_parts infoStep
 go_enter Tryz.func160,Tryz.ntmps160
 go_wp2_with fail
 refine (IX.out _).mono ?_
 rintro e w1 ⟨rfl,hI,q1⟩
 go_wp2_with fail
 go_loopw [6,7,8] (fun tl td ta wr=>∃ (C:List M.St) (ao:Option Addr) (cap done at_:Nat),tl=.slice ao C.length cap∧td=.int .i64 (done:Int)∧ta=.int .i64 (at_:Int)∧done≤at_∧at_≤t.size∧Grow w1 C ao cap wr∧(C=[]→ao=none∧cap=0)∧Hid (Found b t done C)∧Hid (Short b t done at_ C)) (fun _ td ta _=>findMeas t.size (intOf td).toNat (intOf ta).toNat)
 case atStart=>exact ⟨[],none,0,0,0,rfl,rfl,rfl,Nat.le_refl _,Nat.zero_le _,Grow.start w1,fun _=>⟨rfl,rfl⟩,HF0,HS0⟩
 case round =>
  obtain ⟨C,ao,cap,done,at_,rfl,rfl,rfl,hda,hat,hgr,hnil,hF,hS⟩:=hrel
  have hdI:(done:Int)≤(at_:Int):=by omega
  have hCt:=hF.out.tot
  have hCl:=M.length_le_tot hF.out.good
  have hC4:C.length≤4096:=by omega
  clear hCt hCl
  by_cases hgo:at_+4≤t.size
  ·have LC:Hid _:=fun (_:Unit)=>LO.out _ done at_ hda hgo wr (hI.kept hgr.q)
   go_wp2_with fail
   refine (LC.out ()).mono ?_
   rintro e v1 ⟨ahead,place,size,rfl,⟨hL,hW⟩,p1⟩
   have h1:=hL.h1
   have h2:=hL.h2
   have h3:=hL.h3
   have h4:=hL.h4
   have WC:Hid _:=fun (w':World)=>worth_any ⟨⟨#[]⟩,place,size⟩ rfl (by simp only;omega) (by simp only;omega) w'
   have hg1:=(hgr.kept p1).kept ((Q.refl v1).alloc #[.string ⟨#[]⟩,.int .i64 (place:Int),.int .i64 (size:Int)] 241)
   by_cases hpay:(⟨⟨#[]⟩,place,size⟩:M.St).cost+2≤size
   ·obtain ⟨n1,n2,n3⟩:=find_next hb ht hda hgo hF.out hS.out hL hW hpay
    have N1:Hid _:=n1
    have N2:Hid _:=n2
    have N3:Hid _:=n3
    have E:Hid (decide ((⟨⟨#[]⟩,place,size⟩:M.St).cost+2≤size)=true):=(by simpa using hpay:decide ((⟨⟨#[]⟩,place,size⟩:M.St).cost+2≤size)=true)
    have WC2:Hid (∀ w':World,Calls Tryz.prog 187 #[.agg #[.string ⟨#[]⟩,.int .i64 (place:Int),.int .i64 (size:Int)]] w' fun e w''=>e=.returned (.bool true)∧Q w' w''):=fun w'=>by
     have:=WC.out w'
     rw [E.out] at this
     exact this
    have hz4:4≤size:=by
     have:=M.enc_pos 7 (2*size+1)
     have:=M.enc_pos 7 place
     rw [cost_taken] at hpay
     omega
    have hsz4:size≤4096:=by omega
    have hcs:=cut_str t done (at_-ahead-done) (by omega)
    rw [show done+(at_-ahead-done)=at_-ahead by omega,show (done:Int)+((at_-ahead-done:Nat):Int)=(at_:Int)-(ahead:Int) by omega] at hcs
    have PC:Hid _:=PS.out done (at_-ahead)
    have hzp:(t.extract done (at_-ahead)).size=at_-ahead-done:=by simp;omega
    have hpl:(putsOf (t.extract done (at_-ahead))).length≤1:=by unfold putsOf;split<;>simp
    generalize putsOf (t.extract done (at_-ahead))=D at *
    generalize t.extract done (at_-ahead)=piece at *
    have hkv:∀ k,(Value.slice ao C.length cap).ownBlock=some k→k<v1.heap.size:=fun k hk=>((hgr.kept p1).own.lt k hk).2
    clear n1 n2 n3 hpay hL hW hF hS WC E LC hgr hzp
    go_wp2_with fail
    refine (WC2.out _).mono ?_
    rintro e v2 ⟨rfl,p2⟩
    have hg2:=hg1.kept p2
    have hV:=(var3_new v1 (.string ⟨#[]⟩) (.int .i64 (place:Int)) (.int .i64 (size:Int)) 241).kept p2
    go_wp2_with fail
    refine (PC.out _).mono ?_
    rintro e v3 ⟨ad,cd,rfl,⟨hDs,hDn⟩,p3⟩
    have hg3:=hg2.kept p3
    have hV3:=hV.kept p3
    have hown:=hg3.own
    have hsz:=hg3.below.size
    have hVh:v3.heap[v1.heap.size]?=some (.cells #[.string ⟨#[]⟩,.int .i64 (place:Int),.int .i64 (size:Int)] 241 (0,0)):=block_kept (block_kept (heap_alloc_new v1 _) p2) p3
    have hV3l:v1.heap.size<v3.heap.size:=cell_lt hV3.c0
    clear hg1 hg2 hV p2 p3 WC2 PC
    by_cases hD:D=[]
    ·obtain ⟨rfl,rfl⟩:=hDn hD
     subst hD
     have hV0:=hV3.c0
     have hV1:=hV3.c1
     have hV2:=hV3.c2
     have hown2:=hg3.own
     have hsz2:=hg3.below.size
     go_wp2_with (at_builtin;first
      | refine wpList_append_own_none rfl (.tmp 31) (.tmp 38) 213 rfl w1.heap.size 241 i1 3 Tryz.underlying213 hj _ _ _ rfl hown rfl ?_
      | refine wpList_append_own _ rfl (.tmp 40) (.tmp 42) 213 rfl w1.heap.size 241 i1 (.agg #[.string ⟨#[]⟩,.int .i64 0,.int .i64 0]) 3 32 Tryz.underlying213 hj hy0 hy1 hy2 rfl (by decide) _ _ _ rfl (hown2.alloc _) ⟨v3.heap.size,0,none⟩ 1 1 (M.St.cells ⟨⟨#[]⟩,place,size⟩) rfl rfl ?c1 ?c2 ?c3 ?c4 ?c5 ?_)
     case c1=>exact cells_at _ (⟨⟨#[]⟩,place,size⟩:M.St) _
     case c2=>exact cells_one _
     case c3=>unfold maxLen;first | omega | (simp;done) | (simp;omega)
     case c4=>first | omega | (simp;done) | (simp;omega)
     case c5=>simp;omega
     intro v'' w'' hown'' hgrow'' _
     obtain ⟨ao6,cap6,hv6⟩:=own_form hown''
     rw [hv6] at hown''
     rw [hv6]
     have hg6:=(hg3.kept ((Q.refl _).alloc #[.string ⟨#[]⟩,.int .i64 (place:Int),.int .i64 (size:Int)] 241)).push (D:=[⟨⟨#[]⟩,place,size⟩]) hgrow'' (by rw [cellsOf_one];exact hown'')
     have x2:w''.cell? ⟨v1.heap.size,2,none⟩=some (.int .i64 (size:Int)):=cell_grown_ne hgrow'' (kept_cell hV2 ((Q.refl _).alloc _ _)) (fun k hk=>by have:=hkv k hk;show k≠v1.heap.size;omega)
     clear hown'' hgrow'' hown2 hv6
     go_wp2_with fail
     go_roundw
     case rel=>exact ⟨C++[⟨⟨#[]⟩,place,size⟩],ao6,cap6,at_-ahead+size,at_-ahead+size,by simp,by congr 1;omega,by congr 1;omega,Nat.le_refl _,by omega,hg6,fun h=>by simp at h,by simpa using N1,by simpa using N2⟩
     case measure =>
      have:=N3.out
      simp only [intOf]
      rw [show ((at_:Int)-(ahead:Int)+(size:Int)).toNat=at_-ahead+size by omega,Int.toNat_natCast,Int.toNat_natCast]
      exact this
    ·obtain ⟨x,rfl⟩:∃ x,D=[x]:=by
      cases D with
      | nil=>exact absurd rfl hD
      | cons x D=>cases D with
       | nil=>exact ⟨x,rfl⟩
       | cons y D=>simp at hpl
     obtain ⟨gd,od,rfl,hgd,hcd⟩:=hDs.at (k:=0) (by simp)
     have hcx:∀ j u,x.cells[j]?=some u→v3.cell? ((⟨gd,od,none⟩:Addr).add j)=some u:=fun j u hu=>by
      have hx:(⟨gd,od,none⟩:Addr).add j=⟨gd,od+j,none⟩:=by unfold Addr.add;split<;>simp_all
      rw [hx]
      exact hcd.to_cells j u (by rw [cellsOf_one];exact hu)
     have HCX:Hid _:=hcx
     clear hcx hcd hDs
     by_cases hC:C=[]
     ·obtain ⟨rfl,rfl⟩:=hnil hC
      subst hC
      have hnl:v3.ownsRow v3.heap.size 241 3 (.slice none 0 0) 0 []:=World.ownsRow_nil _ _ _ _
      go_wp2_with (at_builtin;refine wpList_append_own _ rfl (.tmp 31) (.tmp 38) 213 rfl v3.heap.size 241 i1 (.agg #[.string ⟨#[]⟩,.int .i64 0,.int .i64 0]) 3 32 Tryz.underlying213 hj hy0 hy1 hy2 rfl (by decide) _ _ _ rfl hnl ⟨gd,od,none⟩ 1 cd x.cells rfl rfl ?c1 ?c2 ?c3 ?c4 ?c5 ?_)
      case c1=>exact HCX.out
      case c2=>exact cells_one _
      case c3=>unfold maxLen;omega
      case c4=>omega
      case c5=>exact Nat.le_refl _
      intro v' u hown' hgrow _
      obtain ⟨ao4,cap4,hv⟩:=own_form hown'
      rw [hv] at hown'
      rw [hv]
      have hkr:∀ k,(Value.slice ao4 1 cap4).ownBlock=some k→k≠v1.heap.size:=fun k hk=>by have:=(hown'.lt k hk).1;omega
      have hg4:Grow w1 ([x]) ao4 cap4 u:=⟨hg3.below.grown hgrow hg3.below.size (by simp [Value.ownBlock]),by rw [cellsOf_one];exact own_lower hown' hg3.below.size⟩
      have hV4:Var3 u v1.heap.size (.string ⟨#[]⟩) (.int .i64 (place:Int)) (.int .i64 (size:Int)):=hV3.grown hgrow (by simp [Value.ownBlock])
      clear hown' hgrow hv hnl hg3 hV3
      have hV0:=hV4.c0
      have hV1:=hV4.c1
      have hV2:=hV4.c2
      have hown2:=hg4.own
      have hsz2:=hg4.below.size
      go_wp2_with (at_builtin;refine wpList_append_own _ rfl (.tmp 40) (.tmp 42) 213 rfl w1.heap.size 241 i1 (.agg #[.string ⟨#[]⟩,.int .i64 0,.int .i64 0]) 3 32 Tryz.underlying213 hj hy0 hy1 hy2 rfl (by decide) _ _ _ rfl (hown2.alloc _) ⟨u.heap.size,0,none⟩ 1 1 (M.St.cells ⟨⟨#[]⟩,place,size⟩) rfl rfl ?c1 ?c2 ?c3 ?c4 ?c5 ?_)
      case c1=>exact cells_at _ (⟨⟨#[]⟩,place,size⟩:M.St) _
      case c2=>exact cells_one _
      case c3=>unfold maxLen;first | omega | (simp;done) | (simp;omega)
      case c4=>first | omega | (simp;done) | (simp;omega)
      case c5=>simp;omega
      intro v'' w'' hown'' hgrow'' _
      obtain ⟨ao6,cap6,hv6⟩:=own_form hown''
      rw [hv6] at hown''
      rw [hv6]
      have hg6:=(hg4.kept ((Q.refl _).alloc #[.string ⟨#[]⟩,.int .i64 (place:Int),.int .i64 (size:Int)] 241)).push (D:=[⟨⟨#[]⟩,place,size⟩]) hgrow'' (by rw [cellsOf_one];exact hown'')
      have x2:w''.cell? ⟨v1.heap.size,2,none⟩=some (.int .i64 (size:Int)):=cell_grown_ne hgrow'' (kept_cell hV2 ((Q.refl _).alloc _ _)) hkr
      clear hown'' hgrow'' hown2 hv6
      go_wp2_with fail
      go_roundw
      case rel=>exact ⟨[x]++[⟨⟨#[]⟩,place,size⟩],ao6,cap6,at_-ahead+size,at_-ahead+size,by simp,by congr 1;omega,by congr 1;omega,Nat.le_refl _,by omega,hg6,fun h=>by simp at h,by simpa using N1,by simpa using N2⟩
      case measure =>
       have:=N3.out
       simp only [intOf]
       rw [show ((at_:Int)-(ahead:Int)+(size:Int)).toNat=at_-ahead+size by omega,Int.toNat_natCast,Int.toNat_natCast]
       exact this
     ·have hC1:1≤C.length:=List.length_pos_iff.2 hC
      go_wp2_with (at_builtin;refine wpList_append_own _ rfl (.tmp 31) (.tmp 38) 213 rfl w1.heap.size 241 i1 (.agg #[.string ⟨#[]⟩,.int .i64 0,.int .i64 0]) 3 32 Tryz.underlying213 hj hy0 hy1 hy2 rfl (by decide) _ _ _ rfl hown ⟨gd,od,none⟩ 1 cd x.cells rfl rfl ?c1 ?c2 ?c3 ?c4 ?c5 ?_)
      case c1=>exact HCX.out
      case c2=>exact cells_one _
      case c3=>unfold maxLen;omega
      case c4=>omega
      case c5=>exact hsz
      intro v' u hown' hgrow _
      obtain ⟨ao4,cap4,hv⟩:=own_form hown'
      rw [hv] at hown'
      rw [hv]
      have hkv2:∀ k,(Value.slice ao C.length cap).ownBlock=some k→k≠v1.heap.size:=fun k hk=>by have:=hkv k hk;omega
      have hkr:∀ k,(Value.slice ao4 (C.length+1) cap4).ownBlock=some k→k≠v1.heap.size:=row_apart (block_grown hgrow hVh hkv2) rfl hown' (by omega)
      have hg4:Grow w1 (C++[x]) ao4 cap4 u:=hg3.push (D:=[x]) hgrow (by rw [cellsOf_one];exact hown')
      have hV4:Var3 u v1.heap.size (.string ⟨#[]⟩) (.int .i64 (place:Int)) (.int .i64 (size:Int)):=hV3.grown hgrow hkv2
      clear hown' hgrow hv hg3 hV3
      have hlen:(C++[x]).length=C.length+1:=by simp
      rw [←hlen] at hkr
      have hV0:=hV4.c0
      have hV1:=hV4.c1
      have hV2:=hV4.c2
      have hown2:=hg4.own
      rw [hlen] at hown2
      have hsz2:=hg4.below.size
      go_wp2_with (at_builtin;refine wpList_append_own _ rfl (.tmp 40) (.tmp 42) 213 rfl w1.heap.size 241 i1 (.agg #[.string ⟨#[]⟩,.int .i64 0,.int .i64 0]) 3 32 Tryz.underlying213 hj hy0 hy1 hy2 rfl (by decide) _ _ _ rfl (hown2.alloc _) ⟨u.heap.size,0,none⟩ 1 1 (M.St.cells ⟨⟨#[]⟩,place,size⟩) rfl rfl ?c1 ?c2 ?c3 ?c4 ?c5 ?_)
      case c1=>exact cells_at _ (⟨⟨#[]⟩,place,size⟩:M.St) _
      case c2=>exact cells_one _
      case c3=>unfold maxLen;first | omega | (simp;done) | (simp;omega)
      case c4=>first | omega | (simp;done) | (simp;omega)
      case c5=>simp;omega
      intro v'' w'' hown'' hgrow'' _
      obtain ⟨ao6,cap6,hv6⟩:=own_form hown''
      rw [hv6] at hown''
      rw [hv6]
      rw [←hlen] at hown'' hgrow''
      have hg6:=(hg4.kept ((Q.refl _).alloc #[.string ⟨#[]⟩,.int .i64 (place:Int),.int .i64 (size:Int)] 241)).push (D:=[⟨⟨#[]⟩,place,size⟩]) hgrow'' (by rw [cellsOf_one];exact hown'')
      have x2:w''.cell? ⟨v1.heap.size,2,none⟩=some (.int .i64 (size:Int)):=cell_grown_ne hgrow'' (kept_cell hV2 ((Q.refl _).alloc _ _)) hkr
      clear hown'' hgrow'' hown2 hv6
      go_wp2_with fail
      go_roundw
      case rel=>exact ⟨(C++[x])++[⟨⟨#[]⟩,place,size⟩],ao6,cap6,at_-ahead+size,at_-ahead+size,by simp,by congr 1;omega,by congr 1;omega,Nat.le_refl _,by omega,hg6,fun h=>by simp at h,by simpa using N1,by simpa using N2⟩
      case measure =>
       have:=N3.out
       simp only [intOf]
       rw [show ((at_:Int)-(ahead:Int)+(size:Int)).toNat=at_-ahead+size by omega,Int.toNat_natCast,Int.toNat_natCast]
       exact this
   ·have E:Hid (decide ((⟨⟨#[]⟩,place,size⟩:M.St).cost+2≤size)=false):=(by simpa using hpay:decide ((⟨⟨#[]⟩,place,size⟩:M.St).cost+2≤size)=false)
    have WC2:Hid (∀ w':World,Calls Tryz.prog 187 #[.agg #[.string ⟨#[]⟩,.int .i64 (place:Int),.int .i64 (size:Int)]] w' fun e w''=>e=.returned (.bool false)∧Q w' w''):=fun w'=>by
     have:=WC.out w'
     rw [E.out] at this
     exact this
    have HS2:Hid (Short b t done (at_+1) C):=find_skip hb hda hgo hS.out hW hpay
    clear hpay hL hW WC E
    go_wp2_with fail
    refine (WC2.out _).mono ?_
    rintro e v2 ⟨rfl,p2⟩
    have hg2:=hg1.kept p2
    go_wp2_with fail
    go_roundw
    case rel=>exact ⟨C,ao,cap,done,at_+1,rfl,by go_num,by go_num,by omega,by omega,hg2,hnil,hF,HS2⟩
    case measure =>
     simp only [intOf]
     rw [show ((at_:Int)+1).toNat=at_+1 by omega,Int.toNat_natCast,Int.toNat_natCast]
     unfold findMeas
     split<;>split<;>omega
  ·have HFS:Hid (FindSaid b t (C++putsOf (t.extract done t.size))):=find_end ht hgo hF.out hS.out
   have PC:Hid _:=PS.out done t.size
   have hpl:(putsOf (t.extract done t.size)).length≤1:=by unfold putsOf;split<;>simp
   have hdt:(done:Int)≤(t.size:Int):=by omega
   have hgoI:(t.size:Int)<(at_:Int)+4:=by omega
   generalize putsOf (t.extract done t.size)=D at *
   clear hF hS
   go_wp2_with fail
   refine (PC.out _).mono ?_
   rintro e v3 ⟨ad,cd,rfl,⟨hDs,hDn⟩,p3⟩
   have hg3:=hgr.kept p3
   have hown:=hg3.own
   have hsz:=hg3.below.size
   by_cases hD:D=[]
   ·obtain ⟨rfl,rfl⟩:=hDn hD
    subst hD
    rw [List.append_nil] at HFS
    have HR:Hid _:=fun (_:Unit)=>(⟨own_steps hg3.own,hg3.cap,q1.trans hg3.q⟩:Steps v3 ao C∧C.length≤cap∧Q w v3)
    go_wp2_with (at_builtin;refine wpList_append_own_none rfl (.tmp 51) (.tmp 55) 213 rfl w1.heap.size 241 i1 3 Tryz.underlying213 hj _ _ _ rfl hown rfl ?_)
    go_ret
    exact ⟨C,ao,cap,rfl,⟨HFS.out,(HR.out ()).1,(HR.out ()).2.1⟩,(HR.out ()).2.2⟩
   ·obtain ⟨x,rfl⟩:∃ x,D=[x]:=by
     cases D with
     | nil=>exact absurd rfl hD
     | cons x D=>cases D with
      | nil=>exact ⟨x,rfl⟩
      | cons y D=>simp at hpl
    obtain ⟨gd,od,rfl,hgd,hcd⟩:=hDs.at (k:=0) (by simp)
    have hcx:∀ j u,x.cells[j]?=some u→v3.cell? ((⟨gd,od,none⟩:Addr).add j)=some u:=fun j u hu=>by
     have hx:(⟨gd,od,none⟩:Addr).add j=⟨gd,od+j,none⟩:=by unfold Addr.add;split<;>simp_all
     rw [hx]
     exact hcd.to_cells j u (by rw [cellsOf_one];exact hu)
    have HCX:Hid _:=hcx
    clear hcx hcd hDs
    go_wp2_with (at_builtin;refine wpList_append_own _ rfl (.tmp 51) (.tmp 55) 213 rfl w1.heap.size 241 i1 (.agg #[.string ⟨#[]⟩,.int .i64 0,.int .i64 0]) 3 32 Tryz.underlying213 hj hy0 hy1 hy2 rfl (by decide) _ _ _ rfl hown ⟨gd,od,none⟩ 1 cd x.cells rfl rfl ?c1 ?c2 ?c3 ?c4 ?c5 ?_)
    case c1=>exact HCX.out
    case c2=>exact cells_one _
    case c3=>unfold maxLen;omega
    case c4=>omega
    case c5=>exact hsz
    intro v' u hown' hgrow _
    obtain ⟨ao4,cap4,hv⟩:=own_form hown'
    rw [hv] at hown'
    rw [hv]
    have hg4:Grow w1 (C++[x]) ao4 cap4 u:=hg3.push (D:=[x]) hgrow (by rw [cellsOf_one];exact hown')
    have HR:Hid _:=fun (_:Unit)=>(⟨own_steps hg4.own,hg4.cap,q1.trans hg4.q⟩:Steps u ao4 (C++[x])∧(C++[x]).length≤cap4∧Q w u)
    have hlen:(C++[x]).length=C.length+1:=by simp
    have HLn:Hid _:=hlen
    clear hown' hgrow hv hlen hg4
    go_wp2_with fail
    go_ret
    exact ⟨C++[x],ao4,cap4,by rw [HLn.out];rfl,⟨HFS.out,(HR.out ()).1,(HR.out ()).2.1⟩,(HR.out ()).2.2⟩
def DiffOf (b t C:ByteArray):Prop:=∃ acc:List Nat,C.size≤t.size+8∧(b=t→C.size≤8)∧M.parse C.data.toList=some (t.size,acc)∧M.reach acc≤b.size∧M.made acc b.data.toList=t.data.toList
theorem diffOf {b t C:ByteArray} {L:List M.St} (ht:t.size≤4096) (hF:FindSaid b t L) (hW:WriteSaid L C):DiffOf b t C:=by
 obtain ⟨h1,h2,h3⟩:=hF
 have hto:=h1.tot
 obtain ⟨p1,p2⟩:=hW.parse h1.good (by omega)
 refine ⟨M.flat L,by omega,fun e=>by have:=h3 e;omega,by rw [p1,hto],h1.reach,?_⟩
 rw [h1.made]
 exact List.take_of_length_le (by simp)
theorem diff_any (b t:ByteArray) (hb:b.size≤4096) (ht:t.size≤4096) (w:World) :
  Calls Tryz.prog 127 #[.string b,.string t] w fun e w'=>∃ C:ByteArray,DiffOf b t C∧e=.returned (.tuple #[.string C,.int .i64 0])∧Q w w':=by
 have FC:Hid _:=find_any b t hb ht
 have t1:decide ((4096:Int)<(b.size:Int))=false:=by simp;omega
 have t2:decide ((4096:Int)<(t.size:Int))=false:=by simp;omega
 have HD:Hid _:=fun (C:ByteArray) (L:List M.St) (hF:FindSaid b t L) (hW:WriteSaid L C)=>diffOf ht hF hW
 have HW:Hid _:=fun (L:List M.St) (ao:Option Addr) (cap:Nat) (w':World) (hF:FindSaid b t L) (hs:Steps w' ao L) (hc:L.length≤cap)=>write_any L ao cap w' hs (by rw [hF.1.tot];exact ht) hF.1.good hc
 go_enter Tryz.func127,Tryz.ntmps127
 go_wp2_with fail
 refine (FC.out _).mono ?_
 rintro e w1 ⟨L,ao,cap,rfl,⟨hF,hs,hc⟩,q1⟩
 go_wp2_with fail
 refine (HW.out L ao cap w1 hF hs hc).mono ?_
 rintro e w2 ⟨C,hWr,rfl,q2⟩
 go_wp2_with fail
 go_ret2
 exact ⟨C,HD.out C L hF hWr,rfl,q1.trans q2⟩
end Go.Proofs.YtekdenkllipehabGreatDoor
