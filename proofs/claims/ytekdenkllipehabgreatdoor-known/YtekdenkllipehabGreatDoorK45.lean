import Derived.Test.YtekdenkllipehabGreatDoorK37
import Derived.Test.YtekdenkllipehabGreatDoorK44
set_option maxRecDepth 100000
set_option maxHeartbeats 8000000
namespace Go.Proofs.YtekdenkllipehabGreatDoor
open Go.RowKit Go.Shelf
attribute [local go_sem] Oper.semAt_some
theorem layDown_keep {w:World} {tg:Tags} {o od m s d:Nat} {T0:S.Two} {X:S.Sto} {bs:List (List Rec)} {C:S.Con} {bad:Prop} {wmf:Int} {ids ps ids' ps':List Nat} (h:Rdy w tg o od m s d T0 X bs C bad wmf ids ps ids' ps') (Bk:Nat) (hBk:w.cell? ⟨Bk,0,none⟩=some (.pointer (some ⟨s,0,none⟩)))  (hBt:¬((tg Bk).1=o∨(tg Bk).1=od)) :
  Calls Tryz.prog 37 #[.pointer (some ⟨s,0,none⟩),(.func (.func 33) #[] #[.pointer (some ⟨Bk,0,none⟩)])] w fun e w'=>LayEnd w tg o od m s d T0 X (S.layC X C (S.needs X.wm) X.keys.length) bad e w':=by
 refine (callsIn_wide (n:=40)).1 ?_
 refine callsIn_of_wp_marks Tryz.func37 rfl trivial ?_ rfl
 simp only [Tryz.ntmps37,List.size_toArray,List.length_cons,List.length_nil,Nat.reduceAdd,Nat.reduceSub,Array.replicate_succ,Array.replicate_zero,List.push_toArray,List.append_toArray,List.nil_append,List.cons_append]
 have hmx:Tryz.prog.follows .mixedOrders=true:=by kernel_rfl
 have c0:=h.sto.c0
 have HR:Hid (Rdy w tg o od m s d T0 X bs C bad wmf ids ps ids' ps'):=h
 have HBK:Hid (w.cell? ⟨Bk,0,none⟩=some (.pointer (some ⟨s,0,none⟩))∧¬((tg Bk).1=o∨(tg Bk).1=od)):=⟨hBk,hBt⟩
 clear hBk hBt
 have q3:Q w (((w.alloc (.cells #[.pointer (some ⟨s,0,none⟩)] 30)).alloc (.cells #[(.func (.func 33) #[] #[.pointer (some ⟨Bk,0,none⟩)])] 112)).alloc (.cells #[.int .i64 0] 28)):=(((Q.refl w).alloc _ _).alloc _ _).alloc _ _
 have k0:=kept_cell c0 q3
 clear h
 gi_wp2
 refine ⟨trivial,(histories_in _ _ _).mono ?_⟩
 rintro e w3 ⟨rfl,rfl⟩
 gi_wp2
 clear k0 q3
 obtain ⟨wl,hwl⟩:∃ wl,wl=((((w.alloc (.cells #[.pointer (some ⟨s,0,none⟩)] 30)).alloc (.cells #[(.func (.func 33) #[] #[.pointer (some ⟨Bk,0,none⟩)])] 112)).alloc (.cells #[.int .i64 0] 28)).alloc (.cells #[.pointer (some ⟨d,0,none⟩),.slice none 0 0,.int .i64 0,.slice none 0 0,.slice none 0 0,.slice none 0 0] 117)).alloc (.cells #[.pointer (some ⟨s,0,none⟩)] 30):=⟨_,rfl⟩
 have qwl:Q w wl:=by rw [hwl];exact (((((Q.refl w).alloc _ _).alloc _ _).alloc _ _).alloc _ _).alloc _ _
 have hszl:wl.heap.size=w.heap.size+5:=by rw [hwl];simp
 have hv0:VarN wl w.heap.size [.pointer (some ⟨s,0,none⟩)]:=by
  rw [hwl];exact (varN_new w [.pointer (some ⟨s,0,none⟩)] 30).kept (((((Q.refl _).alloc _ _).alloc _ _).alloc _ _).alloc _ _)
 have hv1:VarN wl (w.heap.size+1) [(.func (.func 33) #[] #[.pointer (some ⟨Bk,0,none⟩)])]:=by
  have:=(varN_new (w.alloc (.cells #[.pointer (some ⟨s,0,none⟩)] 30)) [(.func (.func 33) #[] #[.pointer (some ⟨Bk,0,none⟩)])] 112).kept ((((Q.refl _).alloc #[.int .i64 0] 28).alloc #[.pointer (some ⟨d,0,none⟩),.slice none 0 0,.int .i64 0,.slice none 0 0,.slice none 0 0,.slice none 0 0] 117).alloc #[.pointer (some ⟨s,0,none⟩)] 30)
  rw [World.size_alloc] at this
  rw [hwl];exact this
 have hv2:VarN wl (w.heap.size+2) [.int .i64 0]:=by
  have:=(varN_new ((w.alloc (.cells #[.pointer (some ⟨s,0,none⟩)] 30)).alloc (.cells #[(.func (.func 33) #[] #[.pointer (some ⟨Bk,0,none⟩)])] 112)) [.int .i64 0] 28).kept (((Q.refl _).alloc #[.pointer (some ⟨d,0,none⟩),.slice none 0 0,.int .i64 0,.slice none 0 0,.slice none 0 0,.slice none 0 0] 117).alloc #[.pointer (some ⟨s,0,none⟩)] 30)
  rw [World.size_alloc,World.size_alloc] at this
  rw [hwl];exact this
 have hv3:VarN wl (w.heap.size+3) [.pointer (some ⟨d,0,none⟩),.slice none 0 0,.int .i64 0,.slice none 0 0,.slice none 0 0,.slice none 0 0]:=by
  have:=(varN_new (((w.alloc (.cells #[.pointer (some ⟨s,0,none⟩)] 30)).alloc (.cells #[(.func (.func 33) #[] #[.pointer (some ⟨Bk,0,none⟩)])] 112)).alloc (.cells #[.int .i64 0] 28)) [.pointer (some ⟨d,0,none⟩),.slice none 0 0,.int .i64 0,.slice none 0 0,.slice none 0 0,.slice none 0 0] 117).kept ((Q.refl _).alloc #[.pointer (some ⟨s,0,none⟩)] 30)
  rw [World.size_alloc,World.size_alloc,World.size_alloc] at this
  rw [hwl];exact this
 have hv3f:∀ j,wl.frozen? ⟨w.heap.size+3,j,none⟩=false:=fun j=>by
  obtain ⟨wz,hwz⟩:∃ wz,wz=(((w.alloc (.cells #[.pointer (some ⟨s,0,none⟩)] 30)).alloc (.cells #[(.func (.func 33) #[] #[.pointer (some ⟨Bk,0,none⟩)])] 112)).alloc (.cells #[.int .i64 0] 28)):=⟨_,rfl⟩
  have hz:wz.heap.size=w.heap.size+3:=by rw [hwz];simp
  have h1:(wz.alloc (.cells #[.pointer (some ⟨d,0,none⟩),.slice none 0 0,.int .i64 0,.slice none 0 0,.slice none 0 0,.slice none 0 0] 117)).frozen? ⟨wz.heap.size,j,none⟩=false:=by simp
  rw [hwl,←hwz,←hz]
  exact (World.frozen?_of_block (a:=⟨wz.heap.size,j,none⟩) (((Q.refl _).alloc #[.pointer (some ⟨s,0,none⟩)] 30).below.block _ (by simp))).trans h1
 have hv4:VarN wl (w.heap.size+4) [.pointer (some ⟨s,0,none⟩)]:=by
  have:=varN_new ((((w.alloc (.cells #[.pointer (some ⟨s,0,none⟩)] 30)).alloc (.cells #[(.func (.func 33) #[] #[.pointer (some ⟨Bk,0,none⟩)])] 112)).alloc (.cells #[.int .i64 0] 28)).alloc (.cells #[.pointer (some ⟨d,0,none⟩),.slice none 0 0,.int .i64 0,.slice none 0 0,.slice none 0 0,.slice none 0 0] 117)) [.pointer (some ⟨s,0,none⟩)] 30
  rw [World.size_alloc,World.size_alloc,World.size_alloc,World.size_alloc] at this
  rw [hwl];exact this
 obtain ⟨tgS,htgS⟩:∃ tgS:Tags,tgS=fun k=>if k<w.heap.size then tg k else if k=w.heap.size+2 then (m+6,0) else if k=w.heap.size+3 then (m,0) else (m+5,0):=⟨_,rfl⟩
 have tl0:∀ k,k<w.heap.size→tgS k=tg k:=fun k hk=>by rw [htgS];simp [hk]
 have tlR:tgS (w.heap.size+2)=(m+6,0):=by rw [htgS];show (if _ then _ else _)=_;rw [if_neg (by omega),if_pos rfl]
 have tlB:tgS (w.heap.size+3)=(m,0):=by rw [htgS];show (if _ then _ else _)=_;rw [if_neg (by omega),if_neg (by omega),if_pos rfl]
 have tlS:∀ k,w.heap.size≤k→k≠w.heap.size+2→k≠w.heap.size+3→tgS k=(m+5,0):=fun k h1 h2 h3=>by rw [htgS];simp [Nat.not_lt.2 h1,h2,h3]
 have hG:=tab_lt HR.out.tab
 have hGl:=HR.out.low _ hG
 have hom:=HR.out.om
 have hodm:=HR.out.odm
 have hne:=HR.out.ne
 have hSl:StoAt wl tgS o s d X ids ps:=HR.out.sto.keep qwl.below.size tl0 (fun k hk _=>qwl.below.block k hk)
 have hDl:LDiskAt wl tgS od d T0.dsk ids' ps':=HR.out.disk.keep qwl.below.size tl0 (fun k hk _=>qwl.below.block k hk)
 have hTl:Tab wl:=tab_kept HR.out.tab qwl
 have htG:tgS 1=tg 1:=tl0 _ hG
 have hW0:Wrt wl tgS m od (w.heap.size+3) d T0 T0 [] [] (S.layC X C (S.needs X.wm) 0) []:=by
  rw [S.layC_zero]
  refine ⟨⟨hv3.1,tlB,fun j=>?_,hv3.cell 0 rfl,⟨none,0,hv3.cell 1 rfl,World.ownsRow_nil _ _ _ _,fun g hg=>by simp [Value.ownBlock] at hg⟩,hv3.cell 2 rfl,⟨none,0,hv3.cell 3 rfl,World.ownsRow_nil _ _ _ _,fun g hg=>by simp [Value.ownBlock] at hg⟩,KMap.empty hv3.1 (hv3.cell 4 rfl) (hv3.cell 5 rfl)⟩,⟨ids',ps',hDl⟩,HR.out.fine,by omega,hTl,by rw [htG];exact ⟨by omega,HR.out.tabo.2⟩,S.Wri.start theAp,⟨rfl,rfl,?_,HR.out.alive,fun e=>e⟩⟩
  ·exact hv3f j
  ·rw [HR.out.nob];rfl
 have hI0:LdnI wl tgS (fun x=>x=m∨x=od∨(m+1≤x∧x≤m+4)) m od (w.heap.size+3) d T0 X C (S.needs X.wm) tgS 0 wl:=⟨Kept.refl _ _ _,T0,[],[],[],hW0,by rw [S.layC_zero];exact S.NwOk.none⟩
 rw [←hwl]
 clear hwl htgS
 refine range_X rfl (by omega) (gf:=84) (lb:=#[.pointer (some ⟨w.heap.size+1+1+1+1,0,none⟩)]) (by simp [Act.eval]) trivial (enters_of Tryz.func84 rfl rfl) X.keys.length (m+4) (fun x=>x=m+1∨x=m+2∨x=m+3) (Wo m od) (fun x=>x=m∨x=od∨x=o∨x=m+6) HistsOk (HistsG bad (m+1) X bs.flatten) tgS (by omega) (fun e=>by rcases e with e | e<;>omega) (by omega) (fun x e=>by rcases e with e | e<;>simp [e]) ?seq ?ps ?hG
  (fun tg1 i W=>LdnI wl tgS (fun x=>x=m∨x=od∨(m+1≤x∧x≤m+4)) m od (w.heap.size+3) d T0 X C (S.needs X.wm) tg1 i W) (fun c tg1 _ W=>c=.ret∧LdnX wl tgS (fun x=>x=m∨x=od∨(m+1≤x∧x≤m+4)∨x=o∨x=m+6) o od s d (w.heap.size+2) T0 X (S.layC X C (S.needs X.wm) X.keys.length) bad ids ps tg1 W) ?hI ?hIx hI0
  (fun _ vs=>{ tmps:=#[.pointer (some ⟨s,0,none⟩),(.func (.func 33) #[] #[.pointer (some ⟨Bk,0,none⟩)]),.pointer (some ⟨w.heap.size,0,none⟩),.pointer (some ⟨w.heap.size+1,0,none⟩),.pointer (some ⟨w.heap.size+1+1,0,none⟩),.pointer (some ⟨w.heap.size+1+1+1,0,none⟩),vs.getD 0 undef,vs.getD 1 undef,undef,.pointer (some ⟨s,0,none⟩),.pointer (some ⟨s,0,none⟩),.pointer (some ⟨s,0,none⟩),.pointer (some ⟨d,0,none⟩),.agg #[.pointer (some ⟨d,0,none⟩),.slice none 0 0,.int .i64 0,.slice none 0 0,.slice none 0 0,.slice none 0 0],.pointer (some ⟨s,0,none⟩),.func (.func 84) #[] #[.pointer (some ⟨w.heap.size+1+1+1+1,0,none⟩)],vs.getD 0 undef,vs.getD 1 undef,undef,undef,undef,undef,undef,undef,undef,undef,undef,undef,undef,undef,undef,undef,undef,undef,undef,undef,undef,undef,undef,undef,undef,undef,undef,undef,undef,undef,undef,undef,undef,undef,undef,undef,undef,undef,undef],defers:=[]}) ?assign ?body ?done ?stop
 case seq =>
  intro W1 tg1 hb1 hs1 ht1
  have wb:∀ k,k<wl.heap.size→W1.heap[k]?=wl.heap[k]?:=fun k hk=>hb1.block k hk
  have hsz1:wl.heap.size≤W1.heap.size:=by omega
  have t1G:tg1 1=tg 1:=(ht1 _ (by omega)).trans htG
  have t14:tg1 (w.heap.size+4)=(m+5,0):=(ht1 _ (by omega)).trans (tlS _ (by omega) (by omega) (by omega))
  exact histories1 39 (by omega) (so:=m+1) (sc:=m+2) (lo:=m+3) (Bs:=w.heap.size+4) (fun x=>x=m+1∨x=m+2∨x=m+3) (fun x=>Wo m od x∨x=m+4) (fun x=>(x=m∨x=od∨x=o∨x=m+6)∨x=m+4) (fun x e=>by rcases e with (e | e) | e<;>simp [e]) (hSl.keep hsz1 ht1 (fun k hk _=>wb k hk)) HR.out.good (hDl.keep hsz1 ht1 (fun k hk _=>wb k hk)) HR.out.fine HR.out.on (tab_block hTl (wb _ (by omega))) ((World.cell?_of_block (a:=⟨w.heap.size+4,0,none⟩) (wb (w.heap.size+4) (by omega))).trans (hv4.cell 0 rfl)) ⟨by omega,by rw [t14];intro e;rcases e with ((e | e) | e) | e | e<;>simp at e<;>omega⟩ (by rw [t1G];have:=HR.out.tabo;intro e;rcases e with ((e | e) | e) | e | e<;>first | omega | exact this.2 e) (Or.inl rfl) (Or.inr (Or.inl rfl)) (Or.inr (Or.inr rfl)) (by omega) (by omega) (by omega) (fun x e1 e2=>by rcases e1 with e1 | e1 | e1<;>rcases e2 with (e2 | e2 | e2 | e2) | e2<;>omega) (fun e=>by rcases e with ((e | e) | e) | e | e<;>omega)
 case ps =>
  rintro tg1 i vs W (⟨k,vo,vc,_,rfl,_,_⟩ | ⟨_,rfl⟩)<;>rfl
 case hG =>
  rintro tg1 i vs A' tg2 B' (⟨k,vo,vc,hk,rfl,hown,hgt⟩|⟨hb,rfl⟩) hkp
  ·refine Or.inl ⟨k,vo,vc,hk,rfl,row_keep hown (fun g hg=>hkp.block g (hown.lt g hg).2 (by rw [hgt g hg];omega)),fun g hg=>by rw [hkp.tags g (hown.lt g hg).2];exact hgt g hg⟩
  ·exact Or.inr ⟨hb,rfl⟩
 case hI =>
  rintro tg1 i A' tg2 B' hh hkp
  refine hh.keep hkp (fun x e=>by rcases e with (e | e | e) | e<;>subst e<;>omega) (fun e=>by rcases e with (e | e | e) | e<;>omega) (fun e=>by rcases e with (e | e | e) | e<;>omega) (by omega) (by rw [htG];intro e;rcases e with (e | e | e) | e<;>omega)
 case hIx =>
  rintro c tg1 i A' tg2 B' ⟨hc,hh⟩ hkp
  exact ⟨hc,hh.keep hkp (fun x e=>by rcases e with (e | e | e) | e<;>subst e<;>omega) (fun e=>by rcases e with (e | e | e) | e<;>omega) (fun e=>by rcases e with (e | e | e) | e<;>omega) (by omega) (by rw [tlR];intro e;rcases e with (e | e | e) | e<;>simp at e)⟩
 case assign =>
  rintro l i tg1 vs W K (⟨k,vo,vc,_,rfl,_,_⟩|⟨_,rfl⟩) hK
  ·simp only [Array.getD_eq_getD_getElem?,List.getElem?_toArray,List.getElem?_cons_zero,List.getElem?_cons_succ,Option.getD_some] at hK
   gi_wp2
   exact hK
  ·simp only [Array.getD_eq_getD_getElem?,List.getElem?_toArray,List.getElem?_cons_zero,List.getElem?_cons_succ,Option.getD_some] at hK
   gi_wp2
   exact hK
 case body =>
  rintro l i tg1 vs W hl2 hI hGv
  obtain ⟨hK,T,bs1,ol1,nw,hW,hN⟩:=hI
  have hszW:=hK.size
  have wW:∀ k,k<wl.heap.size→¬((tgS k).1=m∨(tgS k).1=od∨(m+1≤(tgS k).1∧(tgS k).1≤m+4))→W.heap[k]?=wl.heap[k]?:=fun k h1 h2=>hK.block k h1 h2
  have hSW:StoAt W tg1 o s d X ids ps:=hSl.keep hszW hK.tags (fun k hk e=>wW k hk (by rw [e];omega))
  have z0:W.cell? ⟨w.heap.size,0,none⟩=some (.pointer (some ⟨s,0,none⟩)):=(World.cell?_of_block (a:=⟨w.heap.size,0,none⟩) (wW w.heap.size (by omega) (by rw [tlS w.heap.size (by omega) (by omega) (by omega)];simp;omega))).trans (hv0.cell 0 rfl)
  have z1:W.cell? ⟨w.heap.size+1,0,none⟩=some (.func (.func 33) #[] #[.pointer (some ⟨Bk,0,none⟩)]):=(World.cell?_of_block (a:=⟨w.heap.size+1,0,none⟩) (wW (w.heap.size+1) (by omega) (by rw [tlS (w.heap.size+1) (by omega) (by omega) (by omega)];simp;omega))).trans (hv1.cell 0 rfl)
  have hb2:W.heap[w.heap.size+2]?=wl.heap[w.heap.size+2]?:=wW _ (by omega) (by rw [tlR];simp;omega)
  have t0:tg1 w.heap.size=(m+5,0):=(hK.tags _ (by omega)).trans (tlS _ (by omega) (by omega) (by omega))
  have t2:tg1 (w.heap.size+2)=(m+6,0):=(hK.tags _ (by omega)).trans tlR
  have hv2W:VarN W (w.heap.size+2) [.int .i64 0]:=hv2.of_block hb2 hszW
  rcases hGv with ⟨k,vo,vc,hki,rfl,hown,hgt⟩|⟨hbad,rfl⟩
  ·have hrc:=own_rcs hown
   have hlenU:=(HR.out.good.tells k).length
   have hfew:=HR.out.good.fil
   have hLen:=HR.out.histLen k
   have htg:∀ a,vo=some a→X.hist bs.flatten k≠[]→¬Wo m od (tg1 a.block).1:=fun a ha _=>by
    subst ha
    have:=hgt a.block (own_block hown)
    rw [this]
    rintro (e | e)<;>omega
   have hBW:W.cell? ⟨Bk,0,none⟩=some (.pointer (some ⟨s,0,none⟩)):=(World.cell?_of_block (a:=⟨Bk,0,none⟩) ((wW Bk (by have:=cell_lt HBK.out.1;have:=qwl.below.size;simp only at *;omega) (by rw [tl0 Bk (cell_lt HBK.out.1)];have:=HR.out.low Bk (cell_lt HBK.out.1);have:=HBK.out.2;omega)).trans (qwl.below.block Bk (cell_lt HBK.out.1)))).trans HBK.out.1
   have KP:Hid _:=fun (_:Unit)=>compactKeep hSW hBW (X.hist bs.flatten k) hLen vo vc hrc (own_le hown)
   obtain ⟨fe,hfe⟩:=HR.out.good.tells k ⟨#[]⟩
   have hneed:needR X.wm (X.hist bs.flatten k)=S.needs X.wm (X.con C k):=S.needR_run hfe
   have HND:Hid (needR X.wm (X.hist bs.flatten k)=S.needs X.wm (X.con C k)):=hneed
   clear hfe hneed hBW
   have AD:Hid _:=fun (W':World) (q:Q W W')=>ldn_add (B:=w.heap.size+1+1+1) HR.out.good hki (hW.kept q) hN HND.out (needR_le _ _) hLen vo vc (hrc.kept q) htg
   have HH:Hid (Kept (fun x=>x=m∨x=od∨(m+1≤x∧x≤m+4)) tgS wl tg1 W∧S.NwOk nw (S.layC X C (S.needs X.wm) i)∧StoAt W tg1 o s d X ids ps∧VarN W (w.heap.size+2) [.int .i64 0]):=⟨hK,hN,hSW,hv2W⟩
   have HKI:Hid (X.keys[i]?=some k):=hki
   clear hK hN hW hSW hown hgt hrc hfew htg hki wW hb2 hv2W
   simp only [Array.getD_eq_getD_getElem?,List.getElem?_toArray,List.getElem?_cons_zero,List.getElem?_cons_succ,Option.getD_some]
   gi_wp2
   refine ⟨trivial,(CallsIn.inRound l (callsIn_wide.2 (KP.out ()))).mono ?_⟩
   rintro e wk ⟨rfl,qk⟩
   have AD2:Hid _:=fun (_:Unit)=>AD.out wk qk
   have y0:=kept_cell z0 qk
   clear AD z1
   gi_wp2
   refine ⟨trivial,(CallsIn.inRound l (callsIn_wide.2 (AD2.out ()))).mono ?_⟩
   rintro e w5 hA
   obtain ⟨hK,hN,hSW,hv2W⟩:=HH.out
   obtain ⟨c,tg5,rfl,hK5,hc⟩:=ldn_added HR.out.good HKI.out (hK.trans (Kept.of_q qk (fun _ _=>rfl))) (fun x e=>by rcases e with e | e<;>simp [e]) hN HND.out hA
   have hKb:Kept (Wo m od) tg1 W tg5 w5:=(Kept.of_q qk (fun _ _=>rfl)).trans hK5
   have hS5:StoAt w5 tg5 o s d X ids ps:=hSW.keep hKb.size hKb.tags (fun j hj e=>hKb.block j hj (by rw [e];rintro (e | e)<;>omega))
   have hv5:VarN w5 (w.heap.size+2) [.int .i64 0]:=hv2W.of_block (hKb.block _ hv2W.1 (by rw [t2];rintro (e | e)<;>simp at e<;>omega)) hKb.size
   have u0:w5.cell? ⟨w.heap.size,0,none⟩=some (.pointer (some ⟨s,0,none⟩)):=(World.cell?_of_block (a:=⟨w.heap.size,0,none⟩) (hKb.block w.heap.size (cell_lt z0) (by rw [t0];rintro (e | e)<;>simp at e<;>omega))).trans z0
   have t25:tg5 (w.heap.size+2)=(m+6,0):=(hKb.tags _ hv2W.1).trans t2
   have hKl:=hK.trans (hKb.wider (R:=fun x=>x=m∨x=od∨(m+1≤x∧x≤m+4)) (fun x e=>by rcases e with e | e<;>simp [e]))
   have HH5:Hid (Kept (Wo m od) tg1 W tg5 w5∧StoAt w5 tg5 o s d X ids ps∧VarN w5 (w.heap.size+2) [.int .i64 0]∧tg5 (w.heap.size+2)=(m+6,0)∧Kept (fun x=>x=m∨x=od∨(m+1≤x∧x≤m+4)) tgS wl tg5 w5):=⟨hKb,hS5,hv5,t25,hKl⟩
   clear AD2 HH hA hK hN hSW hv2W hK5 hKb hS5 hv5 y0 qk z0 t25 hKl
   by_cases hc0:c=0
   ·subst hc0
    have HI5:Hid (LdnI wl tgS (fun x=>x=m∨x=od∨(m+1≤x∧x≤m+4)) m od (w.heap.size+3) d T0 X C (S.needs X.wm) tg5 (i+1) w5):=by
     rcases hc with ⟨_,h⟩|⟨h,_⟩
     ·exact h
     ·exact absurd rfl h
    clear hc
    gi_wp2
    exact ⟨tg5,HH5.out.1,rfl,HI5.out⟩
   ·have hcI:¬(c:Int)=0:=by omega
    have hcb:((c:Int) != 0)=true:=by simp [hc0]
    have hst:Stopped w5 tg5 od d T0 (S.layC X C (S.needs X.wm) X.keys.length) c:=by
     rcases hc with ⟨h,_⟩|⟨_,h⟩
     ·exact absurd h hc0
     ·exact h
    have GU:Hid _:=fun (_:Unit)=>giveUp_s HH5.out.2.1 (hst.stop3 bad) hne
    clear hc hc0 hst
    gi_wp2
    refine ⟨trivial,(CallsIn.inRound l (callsIn_wide.2 (GU.out ()))).mono ?_⟩
    rintro e w6 ⟨c1,tg6,X6,T6,ids6,ps6,rfl,hK6,hS6,hD6,hF6,hB6⟩
    obtain ⟨hKb,hS5,hv5,t25,hKl⟩:=HH5.out
    have hv6:VarN w6 (w.heap.size+2) [.int .i64 0]:=hv5.of_block (hK6.block _ hv5.1 (by rw [t25];rintro (e | e)<;>simp at e<;>omega)) hK6.size
    have t26:tg6 (w.heap.size+2)=(m+6,0):=(hK6.tags _ hv5.1).trans t25
    have u2:w6.cell? ⟨w.heap.size+1+1,0,none⟩=some (.int .i64 0):=hv6.cell 0 rfl
    have u3:w6.frozen? ⟨w.heap.size+1+1,0,none⟩=false:=hv6.free 0 rfl
    have hset:=Kept.set (w:=w6) (tg:=tg6) (R:=w.heap.size+2) (r:=m+6) (by rw [t26]) (.int .i64 (c1:Int))
    have HX6:Hid (Kept (fun x=>x=m∨x=od∨x=o∨x=m+6) tg1 W tg6 (w6.setCell ⟨w.heap.size+1+1,0,none⟩ (.int .i64 (c1:Int)))∧LdnX wl tgS (fun x=>x=m∨x=od∨(m+1≤x∧x≤m+4)∨x=o∨x=m+6) o od s d (w.heap.size+2) T0 X (S.layC X C (S.needs X.wm) X.keys.length) bad ids ps tg6 (w6.setCell ⟨w.heap.size+1+1,0,none⟩ (.int .i64 (c1:Int)))):=by
     refine ⟨((hKb.wider (fun x e=>by rcases e with e | e<;>simp [e])).trans (hK6.wider (fun x e=>by rcases e with e | e<;>simp [e]))).trans (hset.wider (fun x e=>by simp [e])),c1,X6,T6,ids6,ps6,World.cell?_setCell_same _ _ _ u2,((hKl.wider (fun x e=>by rcases e with e | e | e<;>simp [e])).trans (hK6.wider (fun x e=>by rcases e with e | e<;>simp [e]))).trans (hset.wider (fun x e=>by simp [e])),hS6.keep hset.size hset.tags (fun j hj e=>hset.block j hj (by rw [e];omega)),hD6.keep hset.size hset.tags (fun j hj e=>hset.block j hj (by rw [e];omega)),hF6,hB6⟩
    clear GU hKb hS5 hv5 t25 hKl hK6 hS6 hD6 hF6 hB6 hv6 t26 hset
    gi_wp2
    exact ⟨tg6,HX6.out.1,rfl,HX6.out.2⟩
  ·have hGU:Stop3 W tg1 od d T0 (S.layC X C (S.needs X.wm) X.keys.length) bad 3:=by
    obtain ⟨idsX,psX,hdX⟩:=hW.disk
    exact ⟨T,idsX,psX,hdX,hW.fine,Or.inr (Or.inr ⟨hbad,rfl,_,hW.bld⟩)⟩
   have GU:Hid _:=fun (_:Unit)=>giveUp_s hSW hGU hne
   have HH5:Hid (Kept (Wo m od) tg1 W tg1 W∧StoAt W tg1 o s d X ids ps∧VarN W (w.heap.size+2) [.int .i64 0]∧tg1 (w.heap.size+2)=(m+6,0)∧Kept (fun x=>x=m∨x=od∨(m+1≤x∧x≤m+4)) tgS wl tg1 W):=⟨Kept.refl _ _ _,hSW,hv2W,t2,hK⟩
   have u0:=z0
   clear hGU hW hN hK hSW hv2W wW hb2 z0 z1
   simp only [Array.getD_eq_getD_getElem?,List.getElem?_toArray,List.getElem?_cons_zero,List.getElem?_cons_succ,Option.getD_some]
   gi_wp2
   refine ⟨trivial,(CallsIn.inRound l (callsIn_wide.2 (GU.out ()))).mono ?_⟩
   rintro e w6 ⟨c1,tg6,X6,T6,ids6,ps6,rfl,hK6,hS6,hD6,hF6,hB6⟩
   obtain ⟨hKb,hS5,hv5,t25,hKl⟩:=HH5.out
   have hv6:VarN w6 (w.heap.size+2) [.int .i64 0]:=hv5.of_block (hK6.block _ hv5.1 (by rw [t25];rintro (e | e)<;>simp at e<;>omega)) hK6.size
   have t26:tg6 (w.heap.size+2)=(m+6,0):=(hK6.tags _ hv5.1).trans t25
   have u2:w6.cell? ⟨w.heap.size+1+1,0,none⟩=some (.int .i64 0):=hv6.cell 0 rfl
   have u3:w6.frozen? ⟨w.heap.size+1+1,0,none⟩=false:=hv6.free 0 rfl
   have hset:=Kept.set (w:=w6) (tg:=tg6) (R:=w.heap.size+2) (r:=m+6) (by rw [t26]) (.int .i64 (c1:Int))
   have HX6:Hid (Kept (fun x=>x=m∨x=od∨x=o∨x=m+6) tg1 W tg6 (w6.setCell ⟨w.heap.size+1+1,0,none⟩ (.int .i64 (c1:Int)))∧LdnX wl tgS (fun x=>x=m∨x=od∨(m+1≤x∧x≤m+4)∨x=o∨x=m+6) o od s d (w.heap.size+2) T0 X (S.layC X C (S.needs X.wm) X.keys.length) bad ids ps tg6 (w6.setCell ⟨w.heap.size+1+1,0,none⟩ (.int .i64 (c1:Int)))):=by
    refine ⟨((hKb.wider (fun x e=>by rcases e with e | e<;>simp [e])).trans (hK6.wider (fun x e=>by rcases e with e | e<;>simp [e]))).trans (hset.wider (fun x e=>by simp [e])),c1,X6,T6,ids6,ps6,World.cell?_setCell_same _ _ _ u2,((hKl.wider (fun x e=>by rcases e with e | e | e<;>simp [e])).trans (hK6.wider (fun x e=>by rcases e with e | e<;>simp [e]))).trans (hset.wider (fun x e=>by simp [e])),hS6.keep hset.size hset.tags (fun j hj e=>hset.block j hj (by rw [e];omega)),hD6.keep hset.size hset.tags (fun j hj e=>hset.block j hj (by rw [e];omega)),hF6,hB6⟩
   clear GU hKb hS5 hv5 t25 hKl hK6 hS6 hD6 hF6 hB6 hv6 t26 hset
   gi_wp2
   exact ⟨tg6,HX6.out.1,rfl,HX6.out.2⟩
 case done =>
  rintro D2 tg1 W hD2 hI htD hDW
  obtain ⟨hK,T,bs1,ol1,nw,hW,hN⟩:=hI
  have hszW:=hK.size
  have wW:∀ k,k<wl.heap.size→¬((tgS k).1=m∨(tgS k).1=od∨(m+1≤(tgS k).1∧(tgS k).1≤m+4))→W.heap[k]?=wl.heap[k]?:=fun k h1 h2=>hK.block k h1 h2
  have hSW:StoAt W tg1 o s d X ids ps:=hSl.keep hszW hK.tags (fun k hk e=>wW k hk (by rw [e];omega))
  have z0:W.cell? ⟨w.heap.size,0,none⟩=some (.pointer (some ⟨s,0,none⟩)):=(World.cell?_of_block (a:=⟨w.heap.size,0,none⟩) (wW w.heap.size (by omega) (by rw [tlS w.heap.size (by omega) (by omega) (by omega)];simp;omega))).trans (hv0.cell 0 rfl)
  have hb2:W.heap[w.heap.size+2]?=wl.heap[w.heap.size+2]?:=wW _ (by omega) (by rw [tlR];simp;omega)
  have t0:tg1 w.heap.size=(m+5,0):=(hK.tags _ (by omega)).trans (tlS _ (by omega) (by omega) (by omega))
  have t2:tg1 (w.heap.size+2)=(m+6,0):=(hK.tags _ (by omega)).trans tlR
  have hv2W:VarN W (w.heap.size+2) [.int .i64 0]:=hv2.of_block hb2 hszW
  have z2:=hSW.c2
  have hfew:=hN.few hW.m (by have:=hW.total;omega)
  have EN:Hid _:=fun (_:Unit)=>wend_any (V:=S.layC X C (S.needs X.wm) X.keys.length) hW (fun _ _ h=>h) X.wm (by have:=HR.out.good.fl1;have:=HR.out.good.fl2;omega) HR.out.good.top
  have HH:Hid (Kept (fun x=>x=m∨x=od∨(m+1≤x∧x≤m+4)) tgS wl tg1 W∧StoAt W tg1 o s d X ids ps∧VarN W (w.heap.size+2) [.int .i64 0]∧S.NwOk nw (S.layC X C (S.needs X.wm) X.keys.length)∧nw.length≤209779):=⟨hK,hSW,hv2W,hN,hfew⟩
  clear hK hW hN hSW hb2 hv2W wW hfew
  gi_wp2
  refine ⟨trivial,(callsIn_wide.2 (EN.out ())).mono ?_⟩
  rintro e w5 ⟨c,tg5,rfl,hKb,hc⟩
  obtain ⟨hK,hSW,hv2W,hN,hfew⟩:=HH.out
  have hS5:StoAt w5 tg5 o s d X ids ps:=hSW.keep hKb.size hKb.tags (fun j hj e=>hKb.block j hj (by rw [e];rintro (e | e)<;>omega))
  have hv5:VarN w5 (w.heap.size+2) [.int .i64 0]:=hv2W.of_block (hKb.block _ hv2W.1 (by rw [t2];rintro (e | e)<;>simp at e<;>omega)) hKb.size
  have u0:w5.cell? ⟨w.heap.size,0,none⟩=some (.pointer (some ⟨s,0,none⟩)):=(World.cell?_of_block (a:=⟨w.heap.size,0,none⟩) (hKb.block w.heap.size (cell_lt z0) (by rw [t0];rintro (e | e)<;>simp at e<;>omega))).trans z0
  have t25:tg5 (w.heap.size+2)=(m+6,0):=(hKb.tags _ hv2W.1).trans t2
  have hDl:D2<W.heap.size:=(Array.getElem?_eq_some_iff.1 hDW).1
  have tD5:tg5 D2=(m+4,0):=(hKb.tags _ hDl).trans htD
  have hD5:w5.heap[D2]?=some (.deferred (some [])):=(hKb.block D2 hDl (by rw [htD];rintro (e | e)<;>simp at e<;>omega)).trans hDW
  have hKl:Kept (fun x=>x=m∨x=od∨(m+1≤x∧x≤m+4)) tg w tg5 w5:=(Kept.of_q qwl tl0).trans (hK.trans (hKb.wider (fun x e=>by rcases e with e | e<;>simp [e])))
  have HH5:Hid (StoAt w5 tg5 o s d X ids ps∧VarN w5 (w.heap.size+2) [.int .i64 0]∧tg5 (w.heap.size+2)=(m+6,0)∧Kept (fun x=>x=m∨x=od∨(m+1≤x∧x≤m+4)) tg w tg5 w5∧S.NwOk nw (S.layC X C (S.needs X.wm) X.keys.length)∧nw.length≤209779∧tg5 D2=(m+4,0)∧w5.heap[D2]?=some (.deferred (some []))):=⟨hS5,hv5,t25,hKl,hN,hfew,tD5,hD5⟩
  clear EN HH hK hSW hv2W hN hfew hKb hDW hDl htD z0 z2 t0 t2 hKl tD5 hD5
  by_cases hc0:c=0
  ·subst hc0
   obtain ⟨T5,bs5,ids5,ps5,g1,g2,g3,g4,g5,g6,g7,g8,g9⟩:∃ (T':S.Two) (bs':List (List Rec)) (ids ps:List Nat),LDiskAt w5 tg5 od d T'.dsk ids ps∧T'.dsk.Fine∧T'.cap=T0.cap∧T'.a=some (S.fileText bs' X.wm,(S.fileText bs' X.wm).length)∧T'.b=none∧T'.dead=false∧(T0.fuse=0→T'.fuse=0)∧S.Fil theAp bs' (S.layC X C (S.needs X.wm) X.keys.length)∧WriAt w5 tg5 m (w.heap.size+3) d [] (S.ixsOf bs') nw:=by
    rcases hc with ⟨_,h⟩|⟨h,_⟩
    ·exact h
    ·exact absurd rfl h
   obtain ⟨a4,k4,e4,_,_⟩:=g9.nw.keys
   obtain ⟨a5,k5,e5,_,_⟩:=g9.nw.vals
   have fr:=hS5.fr
   obtain ⟨n4,m4,s4,_,_⟩:=hS5.nw.keys
   obtain ⟨n5,m5,s5,_,_⟩:=hS5.nw.vals
   obtain ⟨n6,m6,s6,_,_⟩:=hS5.pd.keys
   obtain ⟨n7,m7,s7,_,_⟩:=hS5.pd.vals
   have s2:=hS5.c2
   have s3:=hS5.c3
   simp only [List.length_map] at e4 e5 s4 s5 s6 s7
   have f3:=fr 3
   have f4:=fr 4
   have f5:=fr 5
   have f6:=fr 6
   have f7:=fr 7
   have y2:w5.cell? ⟨w.heap.size+1+1,0,none⟩=some (.int .i64 0):=hv5.cell 0 rfl
   have y3:w5.frozen? ⟨w.heap.size+1+1,0,none⟩=false:=hv5.free 0 rfl
   have HG5:Hid _:=And.intro g1 (And.intro g2 (And.intro g3 (And.intro g4 (And.intro g5 (And.intro g6 (And.intro g7 (And.intro g8 g9)))))))
   have hsl:s<w.heap.size:=HR.out.sto.top
   have hsR:s≠w.heap.size+2:=by omega
   have hs0:s≠w.heap.size:=by omega
   have HFR:Hid (∀ j,w5.frozen? ⟨s,j,none⟩=false):=fr
   clear hc g1 g2 g3 g4 g5 g6 g7 g8 g9 hS5 hv5 fr t25
   gi_wp2
   have E4:Hid (w5.cell? ⟨w.heap.size+3,4,none⟩=some (.slice a4 nw.length k4)):=e4
   have E5:Hid (w5.cell? ⟨w.heap.size+3,5,none⟩=some (.slice a5 nw.length k5)):=e5
   clear e4 e5
   obtain ⟨w6,hw6⟩:∃ w6,w6=(((w5.setCell ⟨s,4,none⟩ (.slice a4 nw.length k4)).setCell ⟨s,5,none⟩ (.slice a5 nw.length k5)).setCell ⟨s,6,none⟩ (.slice none 0 0)).setCell ⟨s,7,none⟩ (.slice none 0 0):=⟨_,rfl⟩
   have hns:∀ i j,i≠j→(⟨s,i,none⟩:Addr)≠⟨s,j,none⟩:=fun i j hij e=>by injection e with _ e2;exact hij e2
   have hj6:∀ j,j≠4→j≠5→j≠6→j≠7→w6.cell? ⟨s,j,none⟩=w5.cell? ⟨s,j,none⟩:=fun j h1 h2 h3 h4=>by
    rw [hw6,World.cell?_setCell_other _ _ _ _ (hns _ _ (by omega)),World.cell?_setCell_other _ _ _ _ (hns _ _ (by omega)),World.cell?_setCell_other _ _ _ _ (hns _ _ (by omega)),World.cell?_setCell_other _ _ _ _ (hns _ _ (by omega))]
   have h6:∀ k,k≠s→w6.heap[k]?=w5.heap[k]?:=fun k hk=>by
    rw [hw6,heap_setCell_other _ ⟨s,7,none⟩ k _ (by simpa using hk),heap_setCell_other _ ⟨s,6,none⟩ k _ (by simpa using hk),heap_setCell_other _ ⟨s,5,none⟩ k _ (by simpa using hk),heap_setCell_other _ ⟨s,4,none⟩ k _ (by simpa using hk)]
   have hfr6:∀ j,w6.frozen? ⟨s,j,none⟩=false:=fun j=>by
    rw [hw6,World.frozen?_setCell,World.frozen?_setCell,World.frozen?_setCell,World.frozen?_setCell];exact HFR.out j
   have c67:w6.cell? ⟨s,7,none⟩=some (.slice none 0 0):=by
    rw [hw6];exact World.cell?_setCell_same _ _ _ (by rw [World.cell?_setCell_other _ _ _ _ (hns _ _ (by omega)),World.cell?_setCell_other _ _ _ _ (hns _ _ (by omega)),World.cell?_setCell_other _ _ _ _ (hns _ _ (by omega))];exact s7)
   have c66:w6.cell? ⟨s,6,none⟩=some (.slice none 0 0):=by
    rw [hw6,World.cell?_setCell_other _ _ _ _ (hns _ _ (by omega))];exact World.cell?_setCell_same _ _ _ (by rw [World.cell?_setCell_other _ _ _ _ (hns _ _ (by omega)),World.cell?_setCell_other _ _ _ _ (hns _ _ (by omega))];exact s6)
   have c65:w6.cell? ⟨s,5,none⟩=some (.slice a5 nw.length k5):=by
    rw [hw6,World.cell?_setCell_other _ _ _ _ (hns _ _ (by omega)),World.cell?_setCell_other _ _ _ _ (hns _ _ (by omega))];exact World.cell?_setCell_same _ _ _ (by rw [World.cell?_setCell_other _ _ _ _ (hns _ _ (by omega))];exact s5)
   have c64:w6.cell? ⟨s,4,none⟩=some (.slice a4 nw.length k4):=by
    rw [hw6,World.cell?_setCell_other _ _ _ _ (hns _ _ (by omega)),World.cell?_setCell_other _ _ _ _ (hns _ _ (by omega)),World.cell?_setCell_other _ _ _ _ (hns _ _ (by omega))];exact World.cell?_setCell_same _ _ _ s4
   have x0:w6.cell? ⟨w.heap.size,0,none⟩=some (.pointer (some ⟨s,0,none⟩)):=(World.cell?_of_block (a:=⟨w.heap.size,0,none⟩) (h6 w.heap.size (fun e=>hs0 e.symm))).trans u0
   have x2:w6.cell? ⟨s,2,none⟩=some (.int .i64 X.wm):=(hj6 2 (by omega) (by omega) (by omega) (by omega)).trans s2
   have x3:w6.cell? ⟨s,3,none⟩=some (.int .i64 X.fl):=(hj6 3 (by omega) (by omega) (by omega) (by omega)).trans s3
   have g3:=hfr6 3
   have hb6:w6.heap[w.heap.size+2]?=w5.heap[w.heap.size+2]?:=h6 _ (fun e=>hsR e.symm)
   have yy2:w6.cell? ⟨w.heap.size+1+1,0,none⟩=some (.int .i64 0):=(World.cell?_of_block (a:=⟨w.heap.size+1+1,0,none⟩) hb6).trans y2
   have yy3:w6.frozen? ⟨w.heap.size+1+1,0,none⟩=false:=(World.frozen?_of_block (a:=⟨w.heap.size+1+1,0,none⟩) hb6).trans y3
   have hsz6:w6.heap.size=w5.heap.size:=by rw [hw6];simp
   have hos6:w6.os=w5.os∧w6.tape=w5.tape∧w6.output=w5.output:=by rw [hw6];exact ⟨rfl,rfl,rfl⟩
   have H6:Hid _:=And.intro hj6 (And.intro h6 (And.intro hfr6 (And.intro c64 (And.intro c65 (And.intro c66 (And.intro c67 (And.intro hsz6 hos6)))))))
   rw [←hw6]
   clear hw6 hj6 h6 hfr6 c64 c65 c66 c67 hsz6 hos6 hb6 s2 s3 s4 s5 s6 s7 f3 f4 f5 f6 f7 u0 y2 y3
   refine wpIn_mono ?_ NoPanic.imp
   gi_region_o
   all_goals
    refine NoPanic.normal ?_
    gi_wp2
    obtain ⟨hj6,h6,hfr6,c64,c65,c66,c67,hsz6,ho6,hta6,hou6⟩:=H6.out
    obtain ⟨hS5,hv5,t25,hKl,hN,hfew,tD5,hD5⟩:=HH5.out
    obtain ⟨g1,g2,g3,g4,g5,g6,g7,g8,g9⟩:=HG5.out
    have hDs:D2≠s:=fun e=>by have h1:=hS5.ts;rw [←e,tD5] at h1;injection h1 with h1;omega
    have hDR:D2≠w.heap.size+2:=fun e=>by rw [e,t25] at tD5;injection tD5 with e1;omega
    have hDl:D2<w5.heap.size:=(Array.getElem?_eq_some_iff.1 hD5).1
    obtain ⟨w8,hw8⟩:∃ w8,w8=((w6.setCell ⟨s,3,none⟩ (.int .i64 X.wm)).setCell ⟨w.heap.size+1+1,0,none⟩ (.int .i64 0)).drew:=⟨_,rfl⟩
    have qd:Q ((w6.setCell ⟨s,3,none⟩ (.int .i64 X.wm)).setCell ⟨w.heap.size+1+1,0,none⟩ (.int .i64 0)) w8:=by rw [hw8];exact (Q.refl _).drew
    have hsz8:w5.heap.size≤w8.heap.size:=by have:=qd.below.size;simp at this;omega
    have h8:∀ k,k<w5.heap.size→k≠s→k≠w.heap.size+2→w8.heap[k]?=w5.heap[k]?:=fun k hk h1 h2=>by
     rw [qd.below.block k (by simp;omega),heap_setCell_other _ ⟨w.heap.size+1+1,0,none⟩ k _ (by simpa using h2),heap_setCell_other _ ⟨s,3,none⟩ k _ (by simpa using h1)]
     exact h6 k h1
    have hsl5:s<w5.heap.size:=hS5.top
    have h8s:w8.heap[s]?=(w6.setCell ⟨s,3,none⟩ (.int .i64 X.wm)).heap[s]?:=by
     rw [qd.below.block s (by simp;omega),heap_setCell_other _ ⟨w.heap.size+1+1,0,none⟩ s _ (by simpa using hsR)]
    have c8:∀ j,w8.cell? ⟨s,j,none⟩=(w6.setCell ⟨s,3,none⟩ (.int .i64 X.wm)).cell? ⟨s,j,none⟩:=fun j=>World.cell?_of_block (a:=⟨s,j,none⟩) h8s
    have f8:∀ j,w8.frozen? ⟨s,j,none⟩=false:=fun j=>by
     rw [World.frozen?_of_block (a:=⟨s,j,none⟩) h8s,World.frozen?_setCell];exact hfr6 j
    have c8o:∀ j,j≠3→w8.cell? ⟨s,j,none⟩=w6.cell? ⟨s,j,none⟩:=fun j hj=>by rw [c8 j,World.cell?_setCell_other _ _ _ _ (hns _ _ (by omega))]
    have c83:w8.cell? ⟨s,3,none⟩=some (.int .i64 X.wm):=by rw [c8 3];exact World.cell?_setCell_same _ _ _ x3
    have c8R:w8.cell? ⟨w.heap.size+1+1,0,none⟩=some (.int .i64 0):=kept_cell (World.cell?_setCell_same _ _ _ (by rw [World.cell?_setCell_other _ _ _ _ (by intro e;injection e with e1;omega)];exact yy2)) qd
    have hD8:w8.heap[D2]?=some (.deferred (some [])):=(h8 D2 hDl hDs hDR).trans hD5
    have hcell:(w8.putObj D2 (.deferred none)).cell? ⟨w.heap.size+1+1,0,none⟩=some (.int .i64 0):=(World.cell?_of_block (a:=⟨w.heap.size+1+1,0,none⟩) (World.putObj_heap_other (fun e=>hDR e.symm))).trans c8R
    have hps:(w8.putObj D2 (.deferred none)).heap[s]?=w8.heap[s]?:=World.putObj_heap_other (fun e=>hDs e.symm)
    have pc:∀ j,(w8.putObj D2 (.deferred none)).cell? ⟨s,j,none⟩=w8.cell? ⟨s,j,none⟩:=fun j=>World.cell?_of_block (a:=⟨s,j,none⟩) hps
    have hpg:=grownBy_putObj' w8 D2 (.deferred none)
    have HE:Hid (LayEnd w tg o od m s d T0 X (S.layC X C (S.needs X.wm) X.keys.length) bad (.returned (.int .i64 0)) (w8.putObj D2 (.deferred none))):=by
     refine layEnd_good (ow:=m) (B:=w.heap.size+3) (W:=w5) (P:=fun x=>x=m∨x=od∨(m+1≤x∧x≤m+4)) (Z:=fun k=>k=w.heap.size+2∨k=D2) HR.out.low hom hodm hG (by omega) (by omega) hne hKl (fun k hk e=>by have:=HR.out.low k hk;rcases e with e | e | e<;>first | omega | exact Or.inr e) hS5 hsl g9 (fun k hk e=>by have:=HR.out.low k hk;omega) g1 g2 ?_ (Nat.le_trans hsz8 hpg.size) ?_ ?_ ?_ ?_ ?_ ?_ ?_ ?_ ?_ ?_ ?_ g8 hN hfew g3 g4 g5 g6 g7
     ·rintro k (e|e)
      ·subst e;rw [t25];exact ⟨by omega,by simp;omega,by simp⟩
      ·subst e;rw [tD5];exact ⟨by omega,by simp;omega,by simp⟩
     ·exact hpg.os.trans (qd.below.os.trans ho6)
     ·exact hpg.tape.trans (qd.below.tape.trans hta6)
     ·exact hpg.output.trans (qd.below.output.trans hou6)
     ·intro k hk h1 h2
      rw [World.putObj_heap_other (fun e=>h2 (Or.inr e))]
      exact h8 k hk h1 (fun e=>h2 (Or.inl e))
     ·intro j
      rw [World.frozen?_of_block (a:=⟨s,j,none⟩) hps]
      exact f8 j
     ·intro j hj
      rw [pc j,c8o j (by omega)]
      exact hj6 j (by omega) (by omega) (by omega) (by omega)
     ·rw [pc 3];exact c83
     ·rw [pc 4,c8o 4 (by omega),c64];exact E4.out.symm
     ·rw [pc 5,c8o 5 (by omega),c65];exact E5.out.symm
     ·rw [pc 6,c8o 6 (by omega)];exact c66
     ·rw [pc 7,c8o 7 (by omega)];exact c67
    refine ⟨by simp,.inl ⟨_,_,rfl,run_takeDeferred (by rw [←hw8];exact hD8),?_⟩⟩
    rw [←hw8]
    exact ⟨_,by simp [results,Tryz.results37,go_sem,hcell],HE.out⟩
  ·have hcI:¬(c:Int)=0:=by omega
   have hcb:((c:Int) != 0)=true:=by simp [hc0]
   have hst:Stopped w5 tg5 od d T0 (S.layC X C (S.needs X.wm) X.keys.length) c:=by
    rcases hc with ⟨h,_⟩|⟨_,h⟩
    ·exact absurd h hc0
    ·exact h
   have GU:Hid _:=fun (_:Unit)=>giveUp_s hS5 (hst.stop3 bad) hne
   clear hc hc0 hst hS5 hv5 t25
   gi_wp2
   refine ⟨trivial,(callsIn_wide.2 (GU.out ())).mono ?_⟩
   rintro e w6 ⟨c1,tg6,X6,T6,ids6,ps6,rfl,hK6,hS6,hD6,hF6,hB6⟩
   obtain ⟨hS5,hv5,t25,hKl,hN,hfew,tD5,hD5⟩:=HH5.out
   have hDl:D2<w5.heap.size:=(Array.getElem?_eq_some_iff.1 hD5).1
   have hv6:VarN w6 (w.heap.size+2) [.int .i64 0]:=hv5.of_block (hK6.block _ hv5.1 (by rw [t25];rintro (e | e)<;>simp at e<;>omega)) hK6.size
   have t26:tg6 (w.heap.size+2)=(m+6,0):=(hK6.tags _ hv5.1).trans t25
   have tD6:tg6 D2=(m+4,0):=(hK6.tags _ hDl).trans tD5
   have hDW6:w6.heap[D2]?=some (.deferred (some [])):=(hK6.block D2 hDl (by rw [tD5];rintro (e | e)<;>simp at e<;>omega)).trans hD5
   have u2:w6.cell? ⟨w.heap.size+1+1,0,none⟩=some (.int .i64 0):=hv6.cell 0 rfl
   have u3:w6.frozen? ⟨w.heap.size+1+1,0,none⟩=false:=hv6.free 0 rfl
   have hset:=Kept.set (w:=w6) (tg:=tg6) (R:=w.heap.size+2) (r:=m+6) (by rw [t26]) (.int .i64 (c1:Int))
   have hput:=Kept.put (P:=(·=m+4)) (tg:=tg6) (A:=w6.setCell ⟨w.heap.size+1+1,0,none⟩ (.int .i64 (c1:Int))) (l:=D2) (by rw [tD6]) (.deferred none)
   have hDR:D2≠w.heap.size+2:=fun e=>by rw [e,t26] at tD6;injection tD6 with e1;omega
   have hDW7:(w6.setCell ⟨w.heap.size+1+1,0,none⟩ (.int .i64 (c1:Int))).heap[D2]?=some (.deferred (some [])):=(heap_setCell_other _ ⟨w.heap.size+1+1,0,none⟩ D2 _ (by simpa using hDR)).trans hDW6
   have hcell:((w6.setCell ⟨w.heap.size+1+1,0,none⟩ (.int .i64 (c1:Int))).putObj D2 (.deferred none)).cell? ⟨w.heap.size+1+1,0,none⟩=some (.int .i64 (c1:Int)):=(World.cell?_of_block (a:=⟨w.heap.size+1+1,0,none⟩) (World.putObj_heap_other (fun e=>hDR e.symm))).trans (World.cell?_setCell_same _ _ _ u2)
   have HE:Hid (LayEnd w tg o od m s d T0 X (S.layC X C (S.needs X.wm) X.keys.length) bad (.returned (.int .i64 (c1:Int))) ((w6.setCell ⟨w.heap.size+1+1,0,none⟩ (.int .i64 (c1:Int))).putObj D2 (.deferred none))):=
    layEnd_bad (ow:=m) (P:=fun x=>x=m∨x=od∨(m+1≤x∧x≤m+4)∨x=o∨x=m+6) HR.out.low hom hodm hG (by omega) (by omega) ((((hKl.wider (fun x e=>by rcases e with e | e | e<;>simp [e])).trans (hK6.wider (fun x e=>by rcases e with e | e<;>simp [e]))).trans (hset.wider (fun x e=>by simp [e]))).trans (hput.wider (fun x e=>by simp [e]))) (fun k hk e=>by have:=HR.out.low k hk;rcases e with e | e | e | e | e<;>first | omega | exact Or.inl e | exact Or.inr e)
     ((hS6.keep hset.size hset.tags (fun j hj e=>hset.block j hj (by rw [e];omega))).keep hput.size hput.tags (fun j hj e=>hput.block j hj (by rw [e];omega))) ((hD6.keep hset.size hset.tags (fun j hj e=>hset.block j hj (by rw [e];omega))).keep hput.size hput.tags (fun j hj e=>hput.block j hj (by rw [e];omega))) hF6 hB6
   clear GU hK6 hS6 hD6 hF6 hB6 hv6 t26 hset hput hS5 hv5 t25 hKl tD6 tD5 hD5 hDW6
   gi_wp2
   refine ⟨by simp,.inl ⟨_,_,rfl,run_takeDeferred hDW7,?_⟩⟩
   exact ⟨_,by simp [results,Tryz.results37,go_sem,hcell],HE.out⟩
 case stop =>
  rintro D2 c tg1 i W hD2 ⟨rfl,hx⟩ htD hDW
  gi_wp2
  refine ⟨by simp,.inl ⟨_,_,rfl,run_takeDeferred hDW,?_⟩⟩
  obtain ⟨c,X',T',ids6,ps6,hcell0,hK,hS,hD,hF,hB⟩:=hx
  have hput:=Kept.put (P:=(·=m+4)) (tg:=tg1) (A:=W) (l:=D2) (by rw [htD]) (.deferred none)
  have t2:tg1 (w.heap.size+2)=(m+6,0):=(hK.tags _ (by omega)).trans tlR
  have hDR:w.heap.size+2≠D2:=fun e=>by rw [←e,t2] at htD;injection htD with e1;omega
  have hcell:(W.putObj D2 (.deferred none)).cell? ⟨w.heap.size+1+1,0,none⟩=some (.int .i64 (c:Int)):=(World.cell?_of_block (a:=⟨w.heap.size+1+1,0,none⟩) (World.putObj_heap_other hDR)).trans hcell0
  exact ⟨_,by simp [results,Tryz.results37,go_sem,hcell],layEnd_bad (ow:=m) (P:=fun x=>x=m∨x=od∨(m+1≤x∧x≤m+4)∨x=o∨x=m+6) HR.out.low hom hodm hG (by omega) (by omega) ((Kept.of_q qwl tl0).trans (hK.trans (hput.wider (fun x e=>by simp [e])))) (fun k hk e=>by have:=HR.out.low k hk;rcases e with e | e | e | e | e<;>first | omega | exact Or.inl e | exact Or.inr e) (hS.keep hput.size hput.tags (fun j hj e=>hput.block j hj (by rw [e];omega))) (hD.keep hput.size hput.tags (fun j hj e=>hput.block j hj (by rw [e];omega))) hF hB⟩
end Go.Proofs.YtekdenkllipehabGreatDoor
namespace Go.Proofs.YtekdenkllipehabGreatDoor
open Go.RowKit Go.Shelf
attribute [local go_sem] Oper.semAt_some
def Drops (X:S.Sto) (C:S.Con):Prop:=∃ k,S.needs X.wm (X.con C k)<(X.con C k).length
def DropEnd (X:S.Sto) (C:S.Con) (bad:Prop) (w:World) (e:Ending) (w':World):Prop:=
 ∃ (b:Bool) (c:Nat),e=.returned (.tuple #[.bool b,.int .i64 (c:Int)])∧Q w w'∧((c=0∧(b=true↔Drops X C))∨(bad∧c=3∧b=false))
def DropX (wS:World) (tgS:Tags) (P:Nat→Prop) (A B:Nat) (X:S.Sto) (C:S.Con) (bad:Prop) (tg:Tags) (W:World):Prop:=
 ∃ (b:Bool) (c:Nat),W.cell? ⟨A,0,none⟩=some (.bool b)∧W.cell? ⟨B,0,none⟩=some (.int .i64 (c:Int))∧Kept P tgS wS tg W∧((c=0∧b=true∧Drops X C)∨(bad∧c=3∧b=false))
theorem Kept.set2 {w:World} {tg:Tags} {A B r:Nat} (h:(tg A).1=r) (h2:(tg B).1=r) (v u:Value):Kept (·=r) tg w tg ((w.setCell ⟨A,0,none⟩ v).setCell ⟨B,0,none⟩ u):=(Kept.set h v).trans (Kept.set h2 u)
theorem Kept.new {P:Nat→Prop} {tg tg1:Tags} {w W:World} (h:Kept P tg w tg1 W) (hP:∀ k,k<w.heap.size→¬P (tg k).1):Q w W:=⟨⟨h.os,h.tape,h.output,h.size,fun k hk=>h.block k hk (hP k hk)⟩⟩
theorem drops_keep {w:World} {tg:Tags} {o od m s d:Nat} {T0:S.Two} {X:S.Sto} {bs:List (List Rec)} {C:S.Con} {bad:Prop} {wmf:Int} {ids ps ids' ps':List Nat} (h:Rdy w tg o od m s d T0 X bs C bad wmf ids ps ids' ps') (Bk:Nat) (hBk:w.cell? ⟨Bk,0,none⟩=some (.pointer (some ⟨s,0,none⟩))) :
  Calls Tryz.prog 35 #[.pointer (some ⟨s,0,none⟩),(.func (.func 33) #[] #[.pointer (some ⟨Bk,0,none⟩)])] w fun e w'=>DropEnd X C bad w e w':=by
 refine (callsIn_wide (n:=40)).1 ?_
 refine callsIn_of_wp_marks Tryz.func35 rfl trivial ?_ rfl
 simp only [Tryz.ntmps35,List.size_toArray,List.length_cons,List.length_nil,Nat.reduceAdd,Nat.reduceSub,Array.replicate_succ,Array.replicate_zero,List.push_toArray,List.append_toArray,List.nil_append,List.cons_append]
 have hmx:Tryz.prog.follows .mixedOrders=true:=by kernel_rfl
 have HR:Hid (Rdy w tg o od m s d T0 X bs C bad wmf ids ps ids' ps'):=h
 have HBK:Hid (w.cell? ⟨Bk,0,none⟩=some (.pointer (some ⟨s,0,none⟩))):=hBk
 clear h hBk
 gi_wp2
 refine ⟨trivial,(histories_in _ _ _).mono ?_⟩
 rintro e w3 ⟨rfl,rfl⟩
 gi_wp2
 obtain ⟨wl,hwl⟩:∃ wl,wl=(((w.alloc (.cells #[(.func (.func 33) #[] #[.pointer (some ⟨Bk,0,none⟩)])] 112)).alloc (.cells #[.bool false] 4)).alloc (.cells #[.int .i64 0] 28)).alloc (.cells #[.pointer (some ⟨s,0,none⟩)] 30):=⟨_,rfl⟩
 have qwl:Q w wl:=by rw [hwl];exact ((((Q.refl w).alloc _ _).alloc _ _).alloc _ _).alloc _ _
 have hszl:wl.heap.size=w.heap.size+4:=by rw [hwl];simp
 have hv0:VarN wl w.heap.size [(.func (.func 33) #[] #[.pointer (some ⟨Bk,0,none⟩)])]:=by
  rw [hwl];exact (varN_new w [(.func (.func 33) #[] #[.pointer (some ⟨Bk,0,none⟩)])] 112).kept ((((Q.refl _).alloc _ _).alloc _ _).alloc _ _)
 have hv1:VarN wl (w.heap.size+1) [.bool false]:=by
  have:=(varN_new (w.alloc (.cells #[(.func (.func 33) #[] #[.pointer (some ⟨Bk,0,none⟩)])] 112)) [.bool false] 4).kept (((Q.refl _).alloc #[.int .i64 0] 28).alloc #[.pointer (some ⟨s,0,none⟩)] 30)
  rw [World.size_alloc] at this
  rw [hwl];exact this
 have hv2:VarN wl (w.heap.size+2) [.int .i64 0]:=by
  have:=(varN_new ((w.alloc (.cells #[(.func (.func 33) #[] #[.pointer (some ⟨Bk,0,none⟩)])] 112)).alloc (.cells #[.bool false] 4)) [.int .i64 0] 28).kept ((Q.refl _).alloc #[.pointer (some ⟨s,0,none⟩)] 30)
  rw [World.size_alloc,World.size_alloc] at this
  rw [hwl];exact this
 have hv3:VarN wl (w.heap.size+3) [.pointer (some ⟨s,0,none⟩)]:=by
  have:=varN_new (((w.alloc (.cells #[(.func (.func 33) #[] #[.pointer (some ⟨Bk,0,none⟩)])] 112)).alloc (.cells #[.bool false] 4)).alloc (.cells #[.int .i64 0] 28)) [.pointer (some ⟨s,0,none⟩)] 30
  rw [World.size_alloc,World.size_alloc,World.size_alloc] at this
  rw [hwl];exact this
 obtain ⟨tgS,htgS⟩:∃ tgS:Tags,tgS=fun k=>if k<w.heap.size then tg k else if k=w.heap.size+1∨k=w.heap.size+2 then (m+6,0) else (m+5,0):=⟨_,rfl⟩
 have tl0:∀ k,k<w.heap.size→tgS k=tg k:=fun k hk=>by rw [htgS];simp [hk]
 have tlA:tgS (w.heap.size+1)=(m+6,0):=by rw [htgS];show (if _ then _ else _)=_;rw [if_neg (by omega),if_pos (Or.inl rfl)]
 have tlB:tgS (w.heap.size+2)=(m+6,0):=by rw [htgS];show (if _ then _ else _)=_;rw [if_neg (by omega),if_pos (Or.inr rfl)]
 have tlS:∀ k,w.heap.size≤k→k≠w.heap.size+1→k≠w.heap.size+2→tgS k=(m+5,0):=fun k h1 h2 h3=>by rw [htgS];show (if _ then _ else _)=_;rw [if_neg (by omega),if_neg (by omega)]
 have hG:=tab_lt HR.out.tab
 have hGl:=HR.out.low _ hG
 have hom:=HR.out.om
 have hodm:=HR.out.odm
 have hne:=HR.out.ne
 have hSl:StoAt wl tgS o s d X ids ps:=HR.out.sto.keep qwl.below.size tl0 (fun k hk _=>qwl.below.block k hk)
 have hDl:LDiskAt wl tgS od d T0.dsk ids' ps':=HR.out.disk.keep qwl.below.size tl0 (fun k hk _=>qwl.below.block k hk)
 have hTl:Tab wl:=tab_kept HR.out.tab qwl
 have htG:tgS 1=tg 1:=tl0 _ hG
 have hBl:wl.cell? ⟨Bk,0,none⟩=some (.pointer (some ⟨s,0,none⟩)):=kept_cell HBK.out qwl
 have tBk:(tgS Bk).1<m:=by rw [tl0 Bk (cell_lt HBK.out)];exact HR.out.low Bk (cell_lt HBK.out)
 rw [←hwl]
 clear hwl htgS
 refine range_X rfl (by omega) (gf:=84) (lb:=#[.pointer (some ⟨w.heap.size+1+1+1,0,none⟩)]) (by simp [Act.eval]) trivial (enters_of Tryz.func84 rfl rfl) X.keys.length (m+4) (fun x=>x=m+1∨x=m+2∨x=m+3) (fun _=>False) (fun x=>x=m+6) HistsOk (HistsG bad (m+1) X bs.flatten) tgS (by omega) (fun e=>e) (by omega) (fun x e=>e.elim) ?seq ?ps ?hG
  (fun tg1 i W=>Kept (fun x=>m+1≤x∧x≤m+4) tgS wl tg1 W∧∀ (j:Nat) (k:ByteArray),j<i→X.keys[j]?=some k→¬S.needs X.wm (X.con C k)<(X.con C k).length) (fun c tg1 _ W=>c=.ret∧DropX wl tgS (fun x=>(m+1≤x∧x≤m+4)∨x=m+6) (w.heap.size+1) (w.heap.size+2) X C bad tg1 W) ?hI ?hIx ⟨Kept.refl _ _ _,fun j k hj _=>by omega⟩
  (fun _ vs=>{ tmps:=#[.pointer (some ⟨s,0,none⟩),(.func (.func 33) #[] #[.pointer (some ⟨Bk,0,none⟩)]),undef,.pointer (some ⟨w.heap.size,0,none⟩),.pointer (some ⟨w.heap.size+1,0,none⟩),.pointer (some ⟨w.heap.size+1+1,0,none⟩),vs.getD 0 undef,vs.getD 1 undef,.pointer (some ⟨s,0,none⟩),.func (.func 84) #[] #[.pointer (some ⟨w.heap.size+1+1+1,0,none⟩)],vs.getD 0 undef,vs.getD 1 undef,undef,undef,undef,undef,undef,undef,undef,undef,undef,undef],defers:=[]}) ?assign ?body ?done ?stop
 case seq =>
  intro W1 tg1 hb1 hs1 ht1
  have wb:∀ k,k<wl.heap.size→W1.heap[k]?=wl.heap[k]?:=fun k hk=>hb1.block k hk
  have hsz1:wl.heap.size≤W1.heap.size:=by omega
  have t1G:tg1 1=tg 1:=(ht1 _ (by omega)).trans htG
  have t14:tg1 (w.heap.size+3)=(m+5,0):=(ht1 _ (by omega)).trans (tlS _ (by omega) (by omega) (by omega))
  exact histories1 39 (by omega) (so:=m+1) (sc:=m+2) (lo:=m+3) (Bs:=w.heap.size+3) (fun x=>x=m+1∨x=m+2∨x=m+3) (fun x=>False∨x=m+4) (fun x=>x=m+6∨x=m+4) (fun x e=>by rcases e with e | e<;>simp_all) (hSl.keep hsz1 ht1 (fun k hk _=>wb k hk)) HR.out.good (hDl.keep hsz1 ht1 (fun k hk _=>wb k hk)) HR.out.fine HR.out.on (tab_block hTl (wb _ (by omega))) ((World.cell?_of_block (a:=⟨w.heap.size+3,0,none⟩) (wb (w.heap.size+3) (by omega))).trans (hv3.cell 0 rfl)) ⟨by omega,by rw [t14];intro e;rcases e with (e | e) | e | e<;>simp at e⟩ (by rw [t1G];intro e;rcases e with (e | e) | e | e<;>omega) (Or.inl rfl) (Or.inr (Or.inl rfl)) (Or.inr (Or.inr rfl)) (by omega) (by omega) (by omega) (fun x e1 e2=>by rcases e1 with e1 | e1 | e1<;>rcases e2 with e2 | e2<;>omega) (fun e=>by rcases e with (e | e) | e | e<;>omega)
 case ps =>
  rintro tg1 i vs W (⟨k,vo,vc,_,rfl,_,_⟩ | ⟨_,rfl⟩)<;>rfl
 case hG =>
  rintro tg1 i vs A' tg2 B' (⟨k,vo,vc,hk,rfl,hown,hgt⟩|⟨hb,rfl⟩) hkp
  ·refine Or.inl ⟨k,vo,vc,hk,rfl,row_keep hown (fun g hg=>hkp.block g (hown.lt g hg).2 (by rw [hgt g hg];omega)),fun g hg=>by rw [hkp.tags g (hown.lt g hg).2];exact hgt g hg⟩
  ·exact Or.inr ⟨hb,rfl⟩
 case hI =>
  rintro tg1 i A' tg2 B' ⟨hh,hn⟩ hkp
  exact ⟨hh.trans (hkp.wider (fun x e=>by rcases e with (e | e | e) | e<;>subst e<;>omega)),hn⟩
 case hIx =>
  rintro c tg1 i A' tg2 B' ⟨hc,b,c',h1,h2,hh,hn⟩ hkp
  have hb:∀ k,k<wl.heap.size→(tgS k).1=m+6→B'.heap[k]?=A'.heap[k]?:=fun k hk e=>hkp.block k (Nat.lt_of_lt_of_le hk hh.size) (by rw [hh.tags k hk,e];omega)
  exact ⟨hc,b,c',(World.cell?_of_block (a:=⟨w.heap.size+1,0,none⟩) (hb (w.heap.size+1) (by omega) (by rw [tlA]))).trans h1,(World.cell?_of_block (a:=⟨w.heap.size+2,0,none⟩) (hb (w.heap.size+2) (by omega) (by rw [tlB]))).trans h2,hh.trans (hkp.wider (fun x e=>by rcases e with (e | e | e) | e<;>subst e<;>omega)),hn⟩
 case assign =>
  rintro l i tg1 vs W K (⟨k,vo,vc,_,rfl,_,_⟩|⟨_,rfl⟩) hK
  ·simp only [Array.getD_eq_getD_getElem?,List.getElem?_toArray,List.getElem?_cons_zero,List.getElem?_cons_succ,Option.getD_some] at hK
   gi_wp2
   exact hK
  ·simp only [Array.getD_eq_getD_getElem?,List.getElem?_toArray,List.getElem?_cons_zero,List.getElem?_cons_succ,Option.getD_some] at hK
   gi_wp2
   exact hK
 case body =>
  rintro l i tg1 vs W hl2 ⟨hK,hn⟩ hGv
  have hszW:=hK.size
  have wW:∀ k,k<wl.heap.size→¬(m+1≤(tgS k).1∧(tgS k).1≤m+4)→W.heap[k]?=wl.heap[k]?:=fun k h1 h2=>hK.block k h1 h2
  have hSW:StoAt W tg1 o s d X ids ps:=hSl.keep hszW hK.tags (fun k hk e=>wW k hk (by rw [e];omega))
  have z0:W.cell? ⟨w.heap.size,0,none⟩=some (.func (.func 33) #[] #[.pointer (some ⟨Bk,0,none⟩)]):=(World.cell?_of_block (a:=⟨w.heap.size,0,none⟩) (wW w.heap.size (by omega) (by rw [tlS w.heap.size (by omega) (by omega) (by omega)];simp))).trans (hv0.cell 0 rfl)
  have hvA:VarN W (w.heap.size+1) [.bool false]:=hv1.of_block (wW _ (by omega) (by rw [tlA];simp)) hszW
  have hvB:VarN W (w.heap.size+2) [.int .i64 0]:=hv2.of_block (wW _ (by omega) (by rw [tlB];simp)) hszW
  have tA:tg1 (w.heap.size+1)=(m+6,0):=(hK.tags _ (by omega)).trans tlA
  have tB:tg1 (w.heap.size+2)=(m+6,0):=(hK.tags _ (by omega)).trans tlB
  rcases hGv with ⟨k,vo,vc,hki,rfl,hown,hgt⟩|⟨hbad,rfl⟩
  ·have hrc:=own_rcs hown
   have hLen:=HR.out.histLen k
   have hBW:W.cell? ⟨Bk,0,none⟩=some (.pointer (some ⟨s,0,none⟩)):=(World.cell?_of_block (a:=⟨Bk,0,none⟩) (wW Bk (cell_lt hBl) (by omega))).trans hBl
   have KP:Hid _:=fun (_:Unit)=>compactKeep hSW hBW (X.hist bs.flatten k) hLen vo vc hrc (own_le hown)
   obtain ⟨fe,hfe⟩:=HR.out.good.tells k ⟨#[]⟩
   have hneed:needR X.wm (X.hist bs.flatten k)=S.needs X.wm (X.con C k):=S.needR_run hfe
   have hlenU:=(HR.out.good.tells k).length
   have HH:Hid (Kept (fun x=>m+1≤x∧x≤m+4) tgS wl tg1 W∧(∀ (j:Nat) (k:ByteArray),j<i→X.keys[j]?=some k→¬S.needs X.wm (X.con C k)<(X.con C k).length)∧X.keys[i]?=some k):=⟨hK,hn,hki⟩
   rw [←hlenU]
   rw [hneed,←hlenU] at KP
   have HVA:Hid (VarN W (w.heap.size+1) [.bool false]∧VarN W (w.heap.size+2) [.int .i64 0]):=⟨hvA,hvB⟩
   obtain ⟨nn,hnn⟩:∃ nn,nn=S.needs X.wm (X.con C k):=⟨_,rfl⟩
   obtain ⟨ln,hln⟩:∃ ln,ln=(X.con C k).length:=⟨_,rfl⟩
   rw [←hnn,←hln] at KP
   rw [←hln]
   have HNL:Hid (nn=S.needs X.wm (X.con C k)∧ln=(X.con C k).length):=⟨hnn,hln⟩
   clear hK hn hSW hown hgt hrc hki wW hfe hneed hBW hlenU hvA hvB hnn hln
   simp only [Array.getD_eq_getD_getElem?,List.getElem?_toArray,List.getElem?_cons_zero,List.getElem?_cons_succ,Option.getD_some]
   gi_wp2
   refine ⟨trivial,(CallsIn.inRound l (callsIn_wide.2 (KP.out ()))).mono ?_⟩
   rintro e wk ⟨rfl,qk⟩
   have a0:=(HVA.out.1.kept qk).cell 0 rfl
   have a1:=(HVA.out.1.kept qk).free 0 rfl
   have b0:=(HVA.out.2.kept qk).cell 0 rfl
   have b1:=(HVA.out.2.kept qk).free 0 rfl
   by_cases hlt:nn<ln
   ·have hltI:(nn:Int)<(ln:Int):=by omega
    have HX:Hid (Kept (fun x=>x=m+6) tg1 W tg1 ((wk.setCell ⟨w.heap.size+1,0,none⟩ (.bool true)).setCell ⟨w.heap.size+1+1,0,none⟩ (.int .i64 0))∧DropX wl tgS (fun x=>(m+1≤x∧x≤m+4)∨x=m+6) (w.heap.size+1) (w.heap.size+2) X C bad tg1 ((wk.setCell ⟨w.heap.size+1,0,none⟩ (.bool true)).setCell ⟨w.heap.size+1+1,0,none⟩ (.int .i64 0))):=by
     have hset:=Kept.set2 (w:=wk) (tg:=tg1) (A:=w.heap.size+1) (B:=w.heap.size+2) (r:=m+6) (by rw [tA]) (by rw [tB]) (.bool true) (.int .i64 0)
     refine ⟨(Kept.of_q qk (fun _ _=>rfl)).trans hset,true,0,?_,?_,(HH.out.1.wider (fun x e=>Or.inl e)).trans (((Kept.of_q qk (fun _ _=>rfl)).trans hset).wider (fun x e=>Or.inr e)),Or.inl ⟨rfl,rfl,k,by rw [←HNL.out.1,←HNL.out.2];exact hlt⟩⟩
     ·exact (World.cell?_setCell_other _ _ _ _ (by intro e;injection e with e;omega)).trans (World.cell?_setCell_same _ _ _ a0)
     ·exact World.cell?_setCell_same _ _ _ ((World.cell?_setCell_other _ _ _ _ (by intro e;injection e with e;omega)).trans b0)
    have b0':(wk.setCell ⟨w.heap.size+1,0,none⟩ (.bool true)).cell? ⟨w.heap.size+1+1,0,none⟩=some (.int .i64 0):=(World.cell?_setCell_other _ _ _ _ (by intro e;injection e with e;omega)).trans b0
    have b1':(wk.setCell ⟨w.heap.size+1,0,none⟩ (.bool true)).frozen? ⟨w.heap.size+1+1,0,none⟩=false:=by rw [World.frozen?_setCell];exact b1
    clear b0 b1
    gi_wp2
    exact ⟨tg1,HX.out.1,rfl,HX.out.2⟩
   ·have hltI:¬(nn:Int)<(ln:Int):=by omega
    clear a0 a1 b0 b1
    gi_wp2
    refine ⟨tg1,Kept.of_q qk (fun _ _=>rfl),rfl,HH.out.1.trans (Kept.of_q qk (fun _ _=>rfl)),fun j k' hj hk'=>?_⟩
    by_cases hji:j=i
    ·subst hji
     rw [HH.out.2.2] at hk'
     injection hk' with hk'
     rw [←hk',←HNL.out.1,←HNL.out.2]
     exact hlt
    ·exact HH.out.2.1 j k' (by omega) hk'
  ·have a0:=hvA.cell 0 rfl
   have a1:=hvA.free 0 rfl
   have b0:(W.setCell ⟨w.heap.size+1,0,none⟩ (.bool false)).cell? ⟨w.heap.size+1+1,0,none⟩=some (.int .i64 0):=(World.cell?_setCell_other _ _ _ _ (by intro e;injection e with e;omega)).trans (hvB.cell 0 rfl)
   have b1:(W.setCell ⟨w.heap.size+1,0,none⟩ (.bool false)).frozen? ⟨w.heap.size+1+1,0,none⟩=false:=by rw [World.frozen?_setCell];exact hvB.free 0 rfl
   have hset:=Kept.set2 (w:=W) (tg:=tg1) (A:=w.heap.size+1) (B:=w.heap.size+2) (r:=m+6) (by rw [tA]) (by rw [tB]) (.bool false) (.int .i64 3)
   have HX:Hid (Kept (fun x=>x=m+6) tg1 W tg1 ((W.setCell ⟨w.heap.size+1,0,none⟩ (.bool false)).setCell ⟨w.heap.size+1+1,0,none⟩ (.int .i64 3))∧DropX wl tgS (fun x=>(m+1≤x∧x≤m+4)∨x=m+6) (w.heap.size+1) (w.heap.size+2) X C bad tg1 ((W.setCell ⟨w.heap.size+1,0,none⟩ (.bool false)).setCell ⟨w.heap.size+1+1,0,none⟩ (.int .i64 3))):=by
    refine ⟨hset,false,3,?_,World.cell?_setCell_same _ _ _ b0,(hK.wider (fun x e=>Or.inl e)).trans (hset.wider (fun x e=>Or.inr e)),Or.inr ⟨hbad,rfl,rfl⟩⟩
    exact (World.cell?_setCell_other _ _ _ _ (by intro e;injection e with e;omega)).trans (World.cell?_setCell_same _ _ _ a0)
   clear hset hK hn hSW hvA hvB wW z0
   simp only [Array.getD_eq_getD_getElem?,List.getElem?_toArray,List.getElem?_cons_zero,List.getElem?_cons_succ,Option.getD_some]
   gi_wp2
   exact ⟨tg1,HX.out.1,rfl,HX.out.2⟩
 case done =>
  rintro D2 tg1 W hD2 ⟨hK,hn⟩ htD hDW
  have hszW:=hK.size
  have hvA:VarN W (w.heap.size+1) [.bool false]:=hv1.of_block (hK.block _ (by omega) (by rw [tlA];simp)) hszW
  have hvB:VarN W (w.heap.size+2) [.int .i64 0]:=hv2.of_block (hK.block _ (by omega) (by rw [tlB];simp)) hszW
  have tA:tg1 (w.heap.size+1)=(m+6,0):=(hK.tags _ (by omega)).trans tlA
  have tB:tg1 (w.heap.size+2)=(m+6,0):=(hK.tags _ (by omega)).trans tlB
  have a0:=hvA.cell 0 rfl
  have a1:=hvA.free 0 rfl
  have b0:(W.setCell ⟨w.heap.size+1,0,none⟩ (.bool false)).cell? ⟨w.heap.size+1+1,0,none⟩=some (.int .i64 0):=(World.cell?_setCell_other _ _ _ _ (by intro e;injection e with e;omega)).trans (hvB.cell 0 rfl)
  have b1:(W.setCell ⟨w.heap.size+1,0,none⟩ (.bool false)).frozen? ⟨w.heap.size+1+1,0,none⟩=false:=by rw [World.frozen?_setCell];exact hvB.free 0 rfl
  obtain ⟨w8,hw8⟩:∃ w8,w8=(W.setCell ⟨w.heap.size+1,0,none⟩ (.bool false)).setCell ⟨w.heap.size+1+1,0,none⟩ (.int .i64 0):=⟨_,rfl⟩
  have hset:Kept (·=m+6) tg1 W tg1 w8:=by rw [hw8];exact Kept.set2 (A:=w.heap.size+1) (B:=w.heap.size+2) (by rw [tA]) (by rw [tB]) (.bool false) (.int .i64 0)
  have hput:=Kept.put (P:=(·=m+4)) (tg:=tg1) (A:=w8) (l:=D2) (by rw [htD]) (.deferred none)
  have hDA:D2≠w.heap.size+1:=fun e=>by rw [e,tA] at htD;injection htD with e1;omega
  have hDB:D2≠w.heap.size+2:=fun e=>by rw [e,tB] at htD;injection htD with e1;omega
  have hD8:w8.heap[D2]?=some (.deferred (some [])):=(hset.block D2 (Array.getElem?_eq_some_iff.1 hDW).1 (by rw [htD];simp)).trans hDW
  have cA:(w8.putObj D2 (.deferred none)).cell? ⟨w.heap.size+1,0,none⟩=some (.bool false):=(World.cell?_of_block (a:=⟨w.heap.size+1,0,none⟩) (World.putObj_heap_other (fun e=>hDA e.symm))).trans (by rw [hw8];exact (World.cell?_setCell_other _ _ _ _ (by intro e;injection e with e;omega)).trans (World.cell?_setCell_same _ _ _ a0))
  have cB:(w8.putObj D2 (.deferred none)).cell? ⟨w.heap.size+1+1,0,none⟩=some (.int .i64 0):=(World.cell?_of_block (a:=⟨w.heap.size+1+1,0,none⟩) (World.putObj_heap_other (fun e=>hDB e.symm))).trans (by rw [hw8];exact World.cell?_setCell_same _ _ _ b0)
  have HE:Hid (DropEnd X C bad w (.returned (.tuple #[.bool false,.int .i64 0])) (w8.putObj D2 (.deferred none))):=by
   refine ⟨false,0,rfl,((Kept.of_q qwl tl0).trans ((hK.wider (R:=fun x=>m+1≤x) (fun x e=>e.1)).trans ((hset.wider (fun x e=>by show m+1≤x;omega)).trans (hput.wider (fun x e=>by show m+1≤x;omega))))).new (fun k hk e=>by have:=HR.out.low k hk;omega),Or.inl ⟨rfl,?_⟩⟩
   constructor
   ·intro e;cases e
   ·rintro ⟨k,hk⟩
    have hkm:k∈X.keys:=(HR.out.good.keys_all.2.1 k).2 (fun e=>by rw [e] at hk;simp [S.needs] at hk)
    obtain ⟨j,hj⟩:=List.mem_iff_getElem?.1 hkm
    exact absurd hk (hn j k (List.getElem?_eq_some_iff.1 hj).1 hj)
  clear hset hput hK hn hvA hvB
  gi_wp2
  refine ⟨by simp,.inl ⟨_,_,rfl,run_takeDeferred (by rw [←hw8];exact hD8),?_⟩⟩
  rw [←hw8]
  exact ⟨_,by simp [results,Tryz.results35,go_sem,cA,cB],HE.out⟩
 case stop =>
  rintro D2 c tg1 i W hD2 ⟨rfl,b,c,h1,h2,hK,hx⟩ htD hDW
  gi_wp2
  refine ⟨by simp,.inl ⟨_,_,rfl,run_takeDeferred hDW,?_⟩⟩
  have hput:=Kept.put (P:=(·=m+4)) (tg:=tg1) (A:=W) (l:=D2) (by rw [htD]) (.deferred none)
  have tA:tg1 (w.heap.size+1)=(m+6,0):=(hK.tags _ (by omega)).trans tlA
  have tB:tg1 (w.heap.size+2)=(m+6,0):=(hK.tags _ (by omega)).trans tlB
  have hDA:w.heap.size+1≠D2:=fun e=>by rw [←e,tA] at htD;injection htD with e1;omega
  have hDB:w.heap.size+2≠D2:=fun e=>by rw [←e,tB] at htD;injection htD with e1;omega
  have cA:(W.putObj D2 (.deferred none)).cell? ⟨w.heap.size+1,0,none⟩=some (.bool b):=(World.cell?_of_block (a:=⟨w.heap.size+1,0,none⟩) (World.putObj_heap_other hDA)).trans h1
  have cB:(W.putObj D2 (.deferred none)).cell? ⟨w.heap.size+1+1,0,none⟩=some (.int .i64 (c:Int)):=(World.cell?_of_block (a:=⟨w.heap.size+1+1,0,none⟩) (World.putObj_heap_other hDB)).trans h2
  refine ⟨_,by simp [results,Tryz.results35,go_sem,cA,cB],b,c,rfl,((Kept.of_q qwl tl0).trans ((hK.wider (R:=fun x=>m+1≤x) (fun x e=>by rcases e with e | e<;>omega)).trans (hput.wider (fun x e=>by show m+1≤x;omega)))).new (fun k hk e=>by have:=HR.out.low k hk;omega),?_⟩
  rcases hx with ⟨h3,h4,h5⟩|h3
  ·exact Or.inl ⟨h3,fun _=>h5,fun _=>h4⟩
  ·exact Or.inr h3
end Go.Proofs.YtekdenkllipehabGreatDoor
namespace Go.Proofs.YtekdenkllipehabGreatDoor
open Go.RowKit
def S.Sto.asking (X:S.Sto) (k:ByteArray) (t:Int):Int:=if X.dead=true then 10 else if ¬(1≤k.size∧k.size≤64) then 11 else if t<X.wm∨t<0 then 12 else 0
def noEnd (c:Int):Ending:=.returned (.tuple #[.string ⟨#[]⟩,.bool false,.int .i64 c])
theorem S.Sto.Good.told_size {X:S.Sto} {bs:List (List Rec)} {C:S.Con} (h:X.Good bs C) (k:ByteArray) (t:Int):(S.told (S.firstAt (X.con C k) t)).1.size≤4096:=by
 obtain ⟨e,he⟩:=h.tells k ⟨#[]⟩
 cases hf:S.firstAt (X.con C k) t with
 | none=>exact Nat.zero_le _
 | some v =>
  unfold S.firstAt at hf
  obtain ⟨i,hi⟩:=List.mem_iff_getElem?.1 (List.mem_of_find?_eq_some hf)
  have hl:=(h.tells k).length
  have hil:i<(X.hist bs.flatten k).length:=by rw [←hl];exact (List.getElem?_eq_some_iff.1 hi).1
  have hs:=(S.run_sizes he i _ v (List.getElem?_eq_getElem hil) hi).2
  unfold S.Vs.size at hs
  obtain ⟨st,val⟩:=v
  cases val with
  | none=>exact Nat.zero_le _
  | some s=>exact hs
theorem meet_not {w:World} {s:Nat} (e0:Int) (he:e0≠10):Calls Tryz.prog 36 #[.pointer (some ⟨s,0,none⟩),.int .i64 e0] w fun e w'=>e=.returned (.tuple #[])∧w'=w:=by
 have heb:(e0 == 10)=false:=by rw [beq_eq_false_iff_ne];exact he
 go_enter Tryz.func36,Tryz.ntmps36
 go_wp2_with fail
 go_end0
 exact ⟨rfl,rfl⟩
theorem getAt_any {w:World} {tg tg':Tags} {o s d od:Nat} {X:S.Sto} {ids ps ids' ps':List Nat} {D:M.Dsk} {bad:Prop} {bs:List (List Rec)} {wm:Int} {C:S.Con} (h:StoAt w tg o s d X ids ps) (hX:X.Good bs C) (hd:X.dead=false→LDiskAt w tg' od d D ids' ps'∧D.Fine∧OnDisk bad D bs wm) (hT:Tab w)
  (k:ByteArray) (t:Int) :
  Calls Tryz.prog 20 #[.pointer (some ⟨s,0,none⟩),.string k,.int .i64 t] w fun e w'=>(if X.asking k t=0 then (e=vEnd (S.told (S.firstAt (X.con C k) t))∨(bad∧e=badEnd)) else e=noEnd (X.asking k t))∧Q w w':=by
 have c1:=h.c1
 have c2:=h.c2
 have IK:Hid _:=fun (W:World)=>isKey_any k W
 unfold S.Sto.asking
 by_cases hdd:X.dead=true
 ·rw [if_pos hdd]
  rw [hdd] at c1
  simp only [Int.reduceEq,if_false]
  unfold noEnd
  clear IK c2 hd hX h
  go_enter Tryz.func20,Tryz.ntmps20
  go_wp2_with fail
  go_ret3
  exact ⟨rfl,Q.refl w⟩
 ·have hdf:X.dead=false:=by simpa using hdd
  rw [if_neg hdd]
  rw [hdf] at c1
  obtain ⟨hd1,hd2,hd3⟩:=hd hdf
  by_cases hk:1≤k.size∧k.size≤64
  ·rw [if_neg (by simpa using hk)]
   have hk2:decide (1≤k.size∧k.size≤64)=true:=decide_eq_true hk
   rw [hk2] at IK
   by_cases h1:t<X.wm
   ·rw [if_pos (Or.inl h1)]
    simp only [Int.reduceEq,if_false]
    have h1d:decide (t<X.wm)=true:=decide_eq_true h1
    unfold noEnd
    have HA:Hid _:=And.intro c1 c2
    clear hd hX h hd1 hd2 hd3 hk hk2 hdd hdf
    go_enter Tryz.func20,Tryz.ntmps20
    go_wp2_with fail
    refine (IK.out _).mono ?_
    rintro e w1 ⟨rfl,q1⟩
    have k2:=kept_cell c2 q1
    clear IK HA c1 c2
    go_wp2_with fail
    go_ret3
    exact ⟨rfl,q1⟩
   ·by_cases h0:t<0
    ·rw [if_pos (Or.inr h0)]
     simp only [Int.reduceEq,if_false]
     have h1d:decide (t<X.wm)=false:=decide_eq_false h1
     unfold noEnd
     clear hd hX h hd1 hd2 hd3 hk hk2 hdd hdf
     go_enter Tryz.func20,Tryz.ntmps20
     go_wp2_with fail
     refine (IK.out _).mono ?_
     rintro e w1 ⟨rfl,q1⟩
     have k2:=kept_cell c2 q1
     clear IK c1 c2
     go_wp2_with fail
     go_ret3
     exact ⟨rfl,q1⟩
    ·rw [if_neg (by omega)]
     simp only [if_true]
     have SV:Hid _:=fun (W:World) (q:Q w W)=>stoValueAt (h.kept q) hX.ok (hd1.kept q) hd2 hd3 hX.fil (tab_kept hT q) (fun k hk=>hX.empty k hk) k t
     have hlim:(S.told (S.firstAt (X.con C k) t)).1.size≤281474976710656:=Nat.le_trans (hX.told_size k t) (by decide)
     rw [hX.vAt k t] at SV
     obtain ⟨tv,htv⟩:∃ tv,S.told (S.firstAt (X.con C k) t)=tv:=⟨_,rfl⟩
     rw [htv] at SV hlim ⊢
     have CL:Hid _:=fun (W:World)=>clone_any tv.1 W hlim
     have CE:Hid _:=fun (W:World)=>clone_any ⟨#[]⟩ W (by simp [ByteArray.size])
     have MN:Hid _:=fun (W:World) (e0:Int) (he:e0≠10)=>meet_not (w:=W) (s:=s) e0 he
     unfold vEnd at *
     clear hd hX h hd1 hd2 hd3 hk hk2 hdd hdf htv hT hlim
     go_enter Tryz.func20,Tryz.ntmps20
     go_wp2_with fail
     refine (IK.out _).mono ?_
     rintro e w1 ⟨rfl,q1⟩
     have k2:=kept_cell c2 q1
     have SV2:Hid _:=fun (_:Unit)=>SV.out w1 q1
     clear IK c1 c2 SV
     go_wp2_with fail
     refine (SV2.out ()).mono ?_
     rintro e w2 ⟨hA,q2⟩
     have q3:=q1.trans q2
     clear SV2 q1 q2 k2
     rcases hA with rfl|⟨hbad,rfl⟩
     ·clear CE
      go_wp2_with fail
      refine (MN.out _ 0 (by decide)).mono ?_
      rintro e w3 ⟨rfl,rfl⟩
      clear MN
      go_wp2_with fail
      refine (CL.out _).mono ?_
      rintro e w4 ⟨rfl,b4⟩
      clear CL
      go_wp2_with fail
      go_ret3
      exact ⟨Or.inl rfl,q3.trans ⟨b4⟩⟩
     ·unfold badEnd
      clear CL
      go_wp2_with fail
      refine (MN.out _ 3 (by decide)).mono ?_
      rintro e w3 ⟨rfl,rfl⟩
      clear MN
      go_wp2_with fail
      refine (CE.out _).mono ?_
      rintro e w4 ⟨rfl,b4⟩
      clear CE
      go_wp2_with fail
      go_ret3
      exact ⟨Or.inr ⟨hbad,rfl⟩,q3.trans ⟨b4⟩⟩
  ·rw [if_pos hk]
   simp only [Int.reduceEq,if_false]
   have hk2:decide (1≤k.size∧k.size≤64)=false:=decide_eq_false hk
   rw [hk2] at IK
   unfold noEnd
   clear hd hX h hd1 hd2 hd3 hk hk2 hdd hdf
   go_enter Tryz.func20,Tryz.ntmps20
   go_wp2_with fail
   refine (IK.out _).mono ?_
   rintro e w1 ⟨rfl,q1⟩
   clear IK c1 c2
   go_wp2_with fail
   go_ret3
   exact ⟨rfl,q1⟩
def junk (tg:Tags) (w:World):Tags:=tg.more w.heap.size (tg 1).1 0
theorem Rdy.q {w w':World} {tg:Tags} {o od m s d:Nat} {T0:S.Two} {X:S.Sto} {bs:List (List Rec)} {C:S.Con} {bad:Prop} {wmf:Int} {ids ps ids' ps':List Nat} (h:Rdy w tg o od m s d T0 X bs C bad wmf ids ps ids' ps') (q:Q w w'):Rdy w' (junk tg w) o od m s d T0 X bs C bad wmf ids ps ids' ps':=by
 have hG:=tab_lt h.tab
 have ht:∀ k,k<w.heap.size→junk tg w k=tg k:=fun k hk=>Tags.more_old hk
 refine ⟨h.sto.keep q.below.size ht (fun k hk _=>q.below.block k hk),h.disk.keep q.below.size ht (fun k hk _=>q.below.block k hk),h.fine,h.on,h.good,tab_kept h.tab q,by rw [ht _ hG];exact h.tabo,h.ne,h.nob,h.alive,fun k _=>?_,h.om,h.odm,h.few⟩
 by_cases hk2:k<w.heap.size
 ·rw [ht k hk2];exact h.low k hk2
 ·unfold junk
  rw [Tags.more_new (by omega)]
  exact h.low _ hG
theorem LayEnd.after {w w1 w':World} {tg:Tags} {o od m s d:Nat} {T0:S.Two} {X:S.Sto} {V:S.Con} {bad:Prop} {e:Ending} (h:LayEnd w1 (junk tg w) o od m s d T0 X V bad e w') (q:Q w w1):LayEnd w tg o od m s d T0 X V bad e w':=by
 obtain ⟨c,tg',X',T',ids,ps,ids',ps',he,hK,hl,r⟩:=h
 exact ⟨c,tg',X',T',ids,ps,ids',ps',he,(Kept.of_q q (fun k hk=>Tags.more_old hk)).trans hK,hl,r⟩
theorem flush_do {w:World} {tg:Tags} {o od m s d:Nat} {T0:S.Two} {X:S.Sto} {bs:List (List Rec)} {C:S.Con} {bad:Prop} {wmf:Int} {ids ps ids' ps':List Nat} (h:Rdy w tg o od m s d T0 X bs C bad wmf ids ps ids' ps') (hd:X.dead=false) (hp:X.isPending=true) :
  Calls Tryz.prog 31 #[.pointer (some ⟨s,0,none⟩)] w fun e w'=>LayEnd w tg o od m s d T0 X (S.layC X C List.length X.keys.length) bad e w':=by
 have c1:=h.sto.c1
 rw [hd] at c1
 have IP:Hid _:=fun (_:Unit)=>isPending_any h.sto
 rw [hp] at IP
 have LD:Hid _:=fun (W:World) (q:Q w W)=>layDown_all (h.q q)
 clear h
 go_enter Tryz.func31,Tryz.ntmps31
 go_wp2_with fail
 refine (IP.out ()).mono ?_
 rintro e w1 ⟨rfl,q1⟩
 have LD2:Hid _:=fun (_:Unit)=>LD.out w1 q1
 clear LD
 go_wp2_with fail
 refine (LD2.out ()).mono ?_
 rintro e w2 hL
 have HL:=hL.after q1
 obtain ⟨c,rest⟩:=HL
 obtain ⟨tg',X',T',ids2,ps2,ids3,ps3,rfl,hr⟩:=rest
 have HE:Hid (LayEnd w tg o od m s d T0 X (S.layC X C List.length X.keys.length) bad (.returned (.int .i64 (c:Int))) w2):=⟨c,tg',X',T',ids2,ps2,ids3,ps3,rfl,hr⟩
 clear LD2 hL hr
 go_wp2_with fail
 go_ret
 exact HE.out
def CompEnd (w:World) (tg:Tags) (o od m s d:Nat) (T0:S.Two) (X:S.Sto) (C:S.Con) (bad:Prop) (e:Ending) (w':World):Prop:=
 (¬Drops X C∧e=.returned (.int .i64 0)∧Q w w')∨(bad∧e=.returned (.int .i64 3)∧Q w w')∨(Drops X C∧LayEnd w tg o od m s d T0 X (S.layC X C (S.needs X.wm) X.keys.length) bad e w')
theorem compact_do {w:World} {tg:Tags} {o od m s d:Nat} {T0:S.Two} {X:S.Sto} {bs:List (List Rec)} {C:S.Con} {bad:Prop} {wmf:Int} {ids ps ids' ps':List Nat} (h:Rdy w tg o od m s d T0 X bs C bad wmf ids ps ids' ps') (hd:X.dead=false) (hp:X.isPending=false) :
  Calls Tryz.prog 15 #[.pointer (some ⟨s,0,none⟩)] w fun e w'=>CompEnd w tg o od m s d T0 X C bad e w':=by
 have c1:=h.sto.c1
 rw [hd] at c1
 have q0:Q w (w.alloc (.cells #[.pointer (some ⟨s,0,none⟩)] 30)):=(Q.refl w).alloc _ _
 have k1:=kept_cell c1 q0
 have IP:Hid _:=fun (_:Unit)=>isPending_any (h.sto.kept q0)
 rw [hp] at IP
 have HR:Hid (Rdy w tg o od m s d T0 X bs C bad wmf ids ps ids' ps'):=h
 have hv:=varN_new w [.pointer (some ⟨s,0,none⟩)] 30
 have HV:Hid (VarN (w.alloc (.cells #[.pointer (some ⟨s,0,none⟩)] 30)) w.heap.size [.pointer (some ⟨s,0,none⟩)]):=hv
 clear h hv
 go_enter Tryz.func15,Tryz.ntmps15
 go_wp2_with fail
 refine (IP.out ()).mono ?_
 rintro e w1 ⟨rfl,q1⟩
 have qw1:=q0.trans q1
 have b0:=(HV.out.kept q1).cell 0 rfl
 have DR:Hid _:=fun (_:Unit)=>drops_keep (HR.out.q qw1) w.heap.size b0
 clear IP k1
 go_wp2_with fail
 refine (DR.out ()).mono ?_
 rintro e w2 ⟨b,c,rfl,q2,hc⟩
 have qw2:=qw1.trans q2
 have b2:=kept_cell b0 q2
 clear DR b0
 rcases hc with ⟨rfl,hb⟩|⟨hbad,rfl,rfl⟩
 ·cases b with
  | false =>
   have hnd:¬Drops X C:=fun e=>by have:=hb.2 e;cases this
   have ME:Hid _:=fun (W:World)=>meet_not (w:=W) (s:=s) 0 (by decide)
   have HN:Hid (¬Drops X C):=hnd
   clear hb hnd
   go_wp2_with fail
   refine (ME.out _).mono ?_
   rintro e w3 ⟨rfl,hw3⟩
   have q3:Q w2 w3:=by rw [hw3];exact Q.refl _
   clear ME hw3
   go_wp2_with fail
   go_ret
   exact Or.inl ⟨HN.out,rfl,qw2.trans q3⟩
  | true =>
   have hyd:Drops X C:=hb.1 rfl
   have HY:Hid (Drops X C):=hyd
   have hG:=tab_lt HR.out.tab
   have LD:Hid _:=fun (_:Unit)=>layDown_keep (HR.out.q qw2) w.heap.size b2 (by unfold junk;rw [Tags.more_new (Nat.le_refl _)];exact fun e=>e.elim HR.out.tabo.1 HR.out.tabo.2)
   clear hb hyd hG
   go_wp2_with fail
   refine (LD.out ()).mono ?_
   rintro e w3 hL
   obtain ⟨c,tg',X',T',ids2,ps2,ids3,ps3,rfl,hr⟩:=hL.after qw2
   have HE:Hid (LayEnd w tg o od m s d T0 X (S.layC X C (S.needs X.wm) X.keys.length) bad (.returned (.int .i64 (c:Int))) w3):=⟨c,tg',X',T',ids2,ps2,ids3,ps3,rfl,hr⟩
   clear LD hL hr
   go_wp2_with fail
   go_ret
   exact Or.inr (Or.inr ⟨HY.out,HE.out⟩)
 ·have ME:Hid _:=fun (W:World)=>meet_not (w:=W) (s:=s) 3 (by decide)
  have HB:Hid bad:=hbad
  clear hbad
  go_wp2_with fail
  refine (ME.out _).mono ?_
  rintro e w3 ⟨rfl,hw3⟩
  have q3:Q w2 w3:=by rw [hw3];exact Q.refl _
  clear ME hw3
  go_wp2_with fail
  go_ret
  exact Or.inr (Or.inl ⟨HB.out,rfl,qw2.trans q3⟩)
theorem sputNewest {w:World} {tg:Tags} {o s d:Nat} {X:S.Sto} {ids ps:List Nat} (h:StoAt w tg o s d X ids ps) (hnu:S.Rising (X.newest.map (·.1))) (key:ByteArray) (hnl:∀ y∈X.newest.map (·.1),S.kless y key) (hnf:X.newest.length≤1048575) (st:Int) :
  Calls Tryz.prog 65 #[.pointer (some ⟨s,4,none⟩),.string key,.int .i64 st] w fun e w'=>e=.returned (.tuple #[])∧∃ tg',(∀ k,k<w.heap.size→tg' k=tg k)∧StoAt w' tg' o s d { X with newest:=X.newest++[(key,st)]} ids ps∧Only o tg w w':=by
 have hp:S.hasK (X.newest.map (·.1)) key=false:=by
  cases hh:S.hasK (X.newest.map (·.1)) key with
  | false=>rfl
  | true=>exact absurd (hnl _ (S.hasK_iff.1 hh)) (S.kless_irrefl key)
 refine (kPutI tg o s 4 1 (X.newest.map (·.1)) (intVals (X.newest.map (·.2))) hnu (by simp;omega) key st hp hnl (intVals_one _) w h.nw ⟨by rw [h.ts];simp,by rw [h.ts];simp⟩ ⟨h.fr 4,h.fr 5⟩).mono ?_
 rintro e w' ⟨rfl,hN⟩
 refine ⟨rfl,h.turnNewest ?_⟩
 have e1:insAt (X.newest.map (·.1)) (S.lowK (X.newest.map (·.1)) key) key=(X.newest++[(key,st)]).map (·.1):=by
  rw [S.lowK_end hnl,insAt_last];simp
 have e2:insAt (intVals (X.newest.map (·.2))) (S.lowK (X.newest.map (·.1)) key) (.int .i64 st)=intVals ((X.newest++[(key,st)]).map (·.2)):=by
  have hle:(X.newest.map (·.1)).length=(intVals (X.newest.map (·.2))).length:=by simp [intVals]
  rw [S.lowK_end hnl,hle,insAt_last];simp [intVals]
 rw [e1,e2] at hN
 exact hN
def ldSto (wm:Int) (F:List Rec) (n:Nat):S.Sto:=⟨false,wm,wm,S.news (F.take n),[]⟩
theorem ldSto_ok {wm:Int} {F:List Rec} (hF:F.Pairwise S.Bef) (hl:F.length≤1048000) {n:Nat} (hn:n≤F.length):(ldSto wm F n).Ok:=by
 obtain ⟨h1,h2,_⟩:=S.news_all hF n hn
 refine ⟨h1,List.Pairwise.nil,?_,Nat.zero_le _,fun kr hkr=>(by cases hkr)⟩
 have h3:=S.keys_few (F:=F.take n) h1 (fun k hk=>(h2 k).1 hk)
 rw [List.length_map,List.length_take] at h3
 show (S.news (F.take n)).length≤1048000
 omega
theorem EntsAt.keepT {w w':World} {tg tg':Tags} {P:Nat→Prop} {ao:Option Addr} {l:List S.Ent} (h:EntsAt w ao l) (k:Kept P tg w tg' w') (hP:∀ g,ao=some ⟨g,0,none⟩→¬P (tg g).1):EntsAt w' ao l:=by
 rcases h with h|⟨g,rfl,hg,hc⟩
 ·exact Or.inl h
 ·have hB:=k.block g hg (hP g rfl)
  have hx:∀ j,w'.cell? ⟨g,j,none⟩=w.cell? ⟨g,j,none⟩:=fun j=>World.cell?_of_block (a:=⟨g,j,none⟩) hB
  refine Or.inr ⟨g,rfl,Nat.lt_of_lt_of_le hg k.size,fun i e he=>?_⟩
  obtain ⟨h0,h1,h2,h3⟩:=hc i e he
  exact ⟨(hx _).trans h0,(hx _).trans h1,(hx _).trans h2,(hx _).trans h3⟩
def LdRel (tg2:Tags) (w2:World) (o s d:Nat) (wm:Int) (F:List Rec) (at_:Nat→Nat) (n:Nat) (ti:Value) (wr:World):Prop:=
 ∃ (i:Nat) (tg1:Tags),ti=.int .i64 (i:Int)∧i≤n∧Kept (·=o) tg2 w2 tg1 wr∧StoAt wr tg1 o s d (ldSto wm F (at_ i)) [] []
theorem flat_take {bs:List (List Rec)} {i:Nat} {b:List Rec} (h:bs[i]?=some b) (j:Nat) (hj:j≤b.length):bs.flatten.take ((bs.take i).flatten.length+j)=(bs.take i).flatten++b.take j:=by
 have hi:i<bs.length:=(List.getElem?_eq_some_iff.1 h).1
 have hb:bs[i]=b:=(List.getElem?_eq_some_iff.1 h).2
 have e:bs=bs.take i++b::bs.drop (i+1):=by rw [←hb,List.getElem_cons_drop,List.take_append_drop]
 have e2:bs.flatten=(bs.take i).flatten++(b++(bs.drop (i+1)).flatten):=by
  have:=congrArg List.flatten e
  rw [List.flatten_append,List.flatten_cons] at this
  exact this
 rw [e2,List.take_append,List.take_of_length_le (by omega),Nat.add_sub_cancel_left,List.take_append_of_le_length hj]
theorem flat_at {bs:List (List Rec)} {i:Nat} {b:List Rec} (h:bs[i]?=some b) {j:Nat} {r:Rec} (hj:b[j]?=some r):bs.flatten[(bs.take i).flatten.length+j]?=some r:=by
 have hi:i<bs.length:=(List.getElem?_eq_some_iff.1 h).1
 have hb:bs[i]=b:=(List.getElem?_eq_some_iff.1 h).2
 have e:bs=bs.take i++b::bs.drop (i+1):=by rw [←hb,List.getElem_cons_drop,List.take_append_drop]
 have e2:bs.flatten=(bs.take i).flatten++(b++(bs.drop (i+1)).flatten):=by
  have:=congrArg List.flatten e
  rw [List.flatten_append,List.flatten_cons] at this
  exact this
 rw [e2,List.getElem?_append_right (by omega),Nat.add_sub_cancel_left,List.getElem?_append_left (List.getElem?_eq_some_iff.1 hj).1]
 exact hj
theorem flat_len {bs:List (List Rec)} {i:Nat} {b:List Rec} (h:bs[i]?=some b):(bs.take (i+1)).flatten.length=(bs.take i).flatten.length+b.length:=by
 rw [S.take_snoc h,List.flatten_append]
 simp
theorem ld_step {F:List Rec} (hF:F.Pairwise S.Bef) {n:Nat} {r:Rec} (hr:F[n]?=some r):(S.lookK (S.news (F.take n)) r.key).isSome=true∧S.news (F.take (n+1))=S.news (F.take n)∨(S.lookK (S.news (F.take n)) r.key).isSome=false∧S.news (F.take (n+1))=S.news (F.take n)++[(r.key,r.stamp)]∧∀ y∈(S.news (F.take n)).map (·.1),S.kless y r.key:=by
 have hn:n<F.length:=(List.getElem?_eq_some_iff.1 hr).1
 obtain ⟨h1,h2,h3⟩:=S.news_all hF n (by omega)
 have e:=S.take_snoc hr
 rw [e,S.news_snoc]
 unfold S.newsStep
 cases hl:S.lookK (S.news (F.take n)) r.key with
 | some x =>
  left
  rw [if_pos (S.lookK_some h1 hl).1]
  exact ⟨rfl,rfl⟩
 | none =>
  right
  rw [if_neg (by rw [S.lookK_none hl];simp)]
  refine ⟨rfl,rfl,fun y hy=>?_⟩
  obtain ⟨x,hx,hxk⟩:=(h2 y).1 hy
  have hb:S.Bef x r:=by
   have hp:(F.take (n+1)).Pairwise S.Bef:=hF.sublist (List.take_sublist ..)
   rw [e,List.pairwise_append] at hp
   exact hp.2.2 x hx r (by simp)
  rcases hb with hb|hb
  ·rw [←hxk];exact hb
  ·have:=S.lookK_none hl
   rw [S.hasK_iff.2 ((h2 r.key).2 ⟨x,hx,hb.1⟩)] at this
   cases this
def LoadEnd (tg:Tags) (o s d:Nat) (bs:List (List Rec)) (wm:Int) (bad:Prop) (w:World) (e:Ending) (w':World):Prop:=
 ∃ tg',Kept (·=o) tg w tg' w'∧((e=.returned (.int .i64 0)∧StoAt w' tg' o s d (ldSto wm bs.flatten bs.flatten.length) [] [])∨(bad∧e=.returned (.int .i64 3)))
theorem load_any {w:World} {tg:Tags} {o od s d:Nat} {T0:S.Two} {bs:List (List Rec)} {C:S.Con} {bad:Prop} {wm:Int} {ids' ps':List Nat} (h:StoAt w tg o s d ⟨false,0,0,[],[]⟩ [] []) (hD:LDiskAt w tg od d T0.dsk ids' ps') (hF:T0.dsk.Fine) (hO:OnDisk bad T0.dsk bs wm) (hfil:S.Fil theAp bs C) (hT:Tab w) (hG:(tg 1).1≠o) (hfew:bs.flatten.length≤1048000) :
  Calls Tryz.prog 39 #[.pointer (some ⟨s,0,none⟩)] w fun e w'=>LoadEnd tg o s d bs wm bad w e w':=by
 have SR:Hid _:=fun (_:Unit)=>storeReads tg od d T0.dsk ids' ps' hF hO w hD hT
 have c0:=h.c0
 have HS:Hid (StoAt w tg o s d ⟨false,0,0,[],[]⟩ [] []):=h
 have HFI:Hid (S.Fil theAp bs C∧Tab w∧(tg 1).1≠o∧bs.flatten.length≤1048000):=⟨hfil,hT,hG,hfew⟩
 clear h hD hF hO hfil hT hG hfew
 go_enter Tryz.func39,Tryz.ntmps39
 go_wp2_with fail
 refine (SR.out ()).mono ?_
 rintro e w1 ⟨hR,q1⟩
 clear SR
 rcases hR with ⟨bl,ao,cap,hL,hb,rfl,hE,haN⟩|⟨hbad,rfl⟩
 ·have hS1:=HS.out.kept q1
  have s2:=hS1.c2
  have s3:=hS1.c3
  have f2:=hS1.fr 2
  have f3:=hS1.fr 3
  have hV:=varN_new w1 [.int .i64 wm,.string bl,.slice ao bs.length cap] 124
  have HL:Hid (LaidAs bad bl bs∧bl.size≤1048576∧EntsAt w1 ao (S.entsOf 0 bs)∧(∀ a,ao=some a→w.heap.size≤a.block)∧Q w w1∧VarN (w1.alloc (.cells #[.int .i64 wm,.string bl,.slice ao bs.length cap] 124)) w1.heap.size [.int .i64 wm,.string bl,.slice ao bs.length cap]):=⟨hL,hb,hE,haN,q1,hV⟩
  have hsl:s<w1.heap.size:=hS1.top
  clear hL hb hE haN q1 hS1 hV
  unfold layVal
  go_upto_region 4 with fail
  go_region
  obtain ⟨w2,hw2⟩:∃ w2,w2=(((w1.setCell ⟨s,2,none⟩ (.int .i64 wm)).setCell ⟨s,3,none⟩ (.int .i64 wm)).alloc (.cells #[.int .i64 wm,.string bl,.slice ao bs.length cap] 124)).drew:=⟨_,rfl⟩
  obtain ⟨J,hJ⟩:∃ J,J=(tg 1).1:=⟨_,rfl⟩
  have hJo:J≠o:=by rw [hJ];exact HFI.out.2.2.1
  obtain ⟨tg2,htg2⟩:∃ tg2,tg2=tg.more w.heap.size J 0:=⟨_,rfl⟩
  have t2o:∀ k,k<w.heap.size→tg2 k=tg k:=fun k hk=>by rw [htg2];exact Tags.more_old hk
  have t2n:∀ k,w.heap.size≤k→tg2 k=(J,0):=fun k hk=>by rw [htg2];exact Tags.more_new hk
  have hns:∀ i j,i≠j→(⟨s,i,none⟩:Addr)≠⟨s,j,none⟩:=fun i j hij e=>by injection e with _ e2;exact hij e2
  have HW2:Hid (Kept (·=o) tg w tg2 w2∧StoAt w2 tg2 o s d (ldSto wm bs.flatten 0) [] []∧VarN w2 w1.heap.size [.int .i64 wm,.string bl,.slice ao bs.length cap]∧EntsAt w2 ao (S.entsOf 0 bs)∧Tab w2):=by
   obtain ⟨hL,hb,hE,haN,q1,hV⟩:=HL.out
   have hS1:=HS.out.keep q1.below.size t2o (fun k hk _=>q1.below.block k hk)
   have qd:Q ((w1.setCell ⟨s,2,none⟩ (.int .i64 wm)).setCell ⟨s,3,none⟩ (.int .i64 wm)) w2:=by rw [hw2];exact ((Q.refl _).alloc _ _).drew
   have hbl:∀ k,k<w1.heap.size→k≠s→w2.heap[k]?=w1.heap[k]?:=fun k hk hn=>by
    rw [qd.below.block k (by simp;omega),heap_setCell_other _ ⟨s,3,none⟩ k _ (by simpa using hn),heap_setCell_other _ ⟨s,2,none⟩ k _ (by simpa using hn)]
   have hs2:w2.heap[s]?=((w1.setCell ⟨s,2,none⟩ (.int .i64 wm)).setCell ⟨s,3,none⟩ (.int .i64 wm)).heap[s]?:=qd.below.block s (by simp;omega)
   have cs:∀ j,w2.cell? ⟨s,j,none⟩=((w1.setCell ⟨s,2,none⟩ (.int .i64 wm)).setCell ⟨s,3,none⟩ (.int .i64 wm)).cell? ⟨s,j,none⟩:=fun j=>World.cell?_of_block (a:=⟨s,j,none⟩) hs2
   have cso:∀ j,j≠2→j≠3→w2.cell? ⟨s,j,none⟩=w1.cell? ⟨s,j,none⟩:=fun j h1 h2=>by rw [cs j,World.cell?_setCell_other _ _ _ _ (hns _ _ (by omega)),World.cell?_setCell_other _ _ _ _ (hns _ _ (by omega))]
   have hsz:w1.heap.size≤w2.heap.size:=by have:=qd.below.size;simp at this;exact this
   have hSt:=hS1.cell_turn (w':=w2) (Y:=ldSto wm bs.flatten 0) rfl rfl hsz hbl (fun j hj=>cso j (by omega) (by omega)) (fun j=>by rw [World.frozen?_of_block (a:=⟨s,j,none⟩) hs2,World.frozen?_setCell,World.frozen?_setCell]) ((cso 0 (by omega) (by omega)).trans hS1.c0) ((cso 1 (by omega) (by omega)).trans hS1.c1) (by rw [cs 2,World.cell?_setCell_other _ _ _ _ (hns _ _ (by omega))];exact World.cell?_setCell_same _ _ _ s2) (by rw [cs 3];exact World.cell?_setCell_same _ _ _ ((World.cell?_setCell_other _ _ _ _ (hns _ _ (by omega))).trans s3))
   have hK12:Kept (·=o) tg2 w1 tg2 w2:=⟨qd.below.os,qd.below.tape,qd.below.output,hsz,fun _ _=>rfl,fun k hk hn=>hbl k hk (fun e=>hn (by rw [e,hS1.ts]))⟩
   have hGl:=tab_lt HFI.out.2.1
   refine ⟨(Kept.of_q q1 t2o).trans hK12,hSt,?_,hE.keepT hK12 (fun g hg=>by rw [t2n g (haN _ hg)];exact hJo),tab_block (tab_kept HFI.out.2.1 q1) (hbl _ (by have:=q1.below.size;omega) (fun e=>HFI.out.2.2.1 (by rw [e,HS.out.ts])))⟩
   have hz:((w1.setCell ⟨s,2,none⟩ (.int .i64 wm)).setCell ⟨s,3,none⟩ (.int .i64 wm)).heap.size=w1.heap.size:=by simp
   have hv:=(varN_new ((w1.setCell ⟨s,2,none⟩ (.int .i64 wm)).setCell ⟨s,3,none⟩ (.int .i64 wm)) [.int .i64 wm,.string bl,.slice ao bs.length cap] 124).kept ((Q.refl _).drew)
   rw [hz] at hv
   rw [hw2]
   exact hv
  have hWL:w.heap.size≤w1.heap.size:=HL.out.2.2.2.2.1.below.size
  have l2:=HW2.out.2.2.1.cell 2 rfl
  have HTT:Hid (∀ k,w.heap.size≤k→tg2 k=(J,0)):=t2n
  rw [←hw2]
  clear hw2 s2 s3 f2 f3 hns htg2 t2o t2n hJ
  go_wp2_with fail
  clear l2
  go_loopw [36] (fun ti wr=>LdRel tg2 w2 o s d wm bs.flatten (fun i=>(bs.take i).flatten.length) bs.length ti wr) (fun ti _=>bs.length-(intOf ti).toNat)
  case atStart=>exact ⟨0,tg2,rfl,Nat.zero_le _,Kept.refl _ _ _,by simpa using HW2.out.2.1⟩
  case round =>
   obtain ⟨i,tg1,rfl,hi,hK,hSt⟩:=hrel
   obtain ⟨hK0,_,hV2,hE2,hT2⟩:=HW2.out
   obtain ⟨hL,hb,_,haN,q1,_⟩:=HL.out
   have hVr:VarN wr w1.heap.size [.int .i64 wm,.string bl,.slice ao bs.length cap]:=hV2.of_block (hK.block _ hV2.1 (by rw [HTT.out _ hWL];exact hJo)) hK.size
   have hEr:=hE2.keepT hK (fun g hg=>by rw [HTT.out g (haN _ hg)];exact hJo)
   have hGl:=tab_lt HFI.out.2.1
   have hG2:1<w2.heap.size:=Nat.lt_of_lt_of_le hGl hK0.size
   have htG:tg2 1=tg 1:=hK0.tags _ hGl
   have hTr:Tab wr:=tab_block hT2 (hK.block _ hG2 (by rw [htG];exact HFI.out.2.2.1))
   by_cases hlt:i<bs.length
   ·obtain ⟨b,hbi⟩:∃ b,bs[i]?=some b:=⟨_,List.getElem?_eq_getElem hlt⟩
    have hltI:(i:Int)<(bs.length:Int):=by omega
    have hbsl:=hL.few hb
    have hbll:b.length≤64:=(HFI.out.1.ok b (List.mem_of_getElem? hbi)).few
    have BK:Hid _:=fun (_:Unit)=>layBlock_as hL hb HFI.out.1.ok wm ao cap i b hbi (hL.few hb) wr hEr hTr
    unfold layVal at BK
    have v0:=hVr.cell 0 rfl
    have v1:=hVr.cell 1 rfl
    have v2:=hVr.cell 2 rfl
    have HST:Hid (Kept (·=o) tg2 w2 tg1 wr∧StoAt wr tg1 o s d (ldSto wm bs.flatten (bs.take i).flatten.length) [] []):=⟨hK,hSt⟩
    have HBI:Hid (bs[i]?=some b):=hbi
    clear hK hSt hK0 hV2 hE2 hT2 hL hb haN q1 hVr hEr hTr hbi hGl hG2 htG
    go_wp2_with fail
    refine (BK.out ()).mono ?_
    rintro e w3 ⟨hB,q3⟩
    clear BK v0 v1 v2
    rcases hB with ⟨bo,bc,base,rfl,hbase,hown⟩|⟨hbad,rfl⟩
    ·obtain ⟨tgR,htgR⟩:∃ tgR,tgR=tg1.more wr.heap.size J 0:=⟨_,rfl⟩
     have tRo:∀ k,k<wr.heap.size→tgR k=tg1 k:=fun k hk=>by rw [htgR];exact Tags.more_old hk
     have tRn:∀ k,wr.heap.size≤k→tgR k=(J,0):=fun k hk=>by rw [htgR];exact Tags.more_new hk
     have HRc:Hid (Rcs w3 bo b∧∀ a,bo=some a→b≠[]→wr.heap.size≤a.block):=⟨own_rcs hown,fun a ha _=>by
      subst ha
      exact Nat.le_trans hbase (hown.lt _ (own_block hown)).1⟩
     have HS3:Hid (Kept (·=o) tg2 w2 tgR w3∧StoAt w3 tgR o s d (ldSto wm bs.flatten ((bs.take i).flatten.length+0)) [] []):=⟨HST.out.1.trans (Kept.of_q q3 tRo),HST.out.2.keep q3.below.size tRo (fun k hk _=>q3.below.block k hk)⟩
     have HTR:Hid (∀ k,wr.heap.size≤k→tgR k=(J,0)):=tRn
     have hw3:wr.heap.size≤w3.heap.size:=q3.below.size
     clear htgR tRo tRn hown hbase q3
     go_wp2_with fail
     go_loopw [50] (fun tj wq=>LdRel tgR w3 o s d wm bs.flatten (fun j=>(bs.take i).flatten.length+j) b.length tj wq) (fun tj _=>b.length-(intOf tj).toNat)
     case atStart=>exact ⟨0,tgR,rfl,Nat.zero_le _,Kept.refl _ _ _,HS3.out.2⟩
     case round =>
      obtain ⟨j,tgq,rfl,hj,hKq,hSq⟩:=hrel
      have hRr:Rcs wr bo b:=HRc.out.1.keepT hKq (fun a ha hne=>by rw [HTR.out _ (HRc.out.2 a ha hne)];exact hJo)
      by_cases hlj:j<b.length
      ·obtain ⟨g,off,hbo,hgw,hRA⟩:=hRr.at hlj
       obtain ⟨r,hr⟩:∃ r,b[j]?=some r:=⟨_,List.getElem?_eq_getElem hlj⟩
       obtain ⟨c0',c1',c2',c3'⟩:=hRA j r hr
       have hFr:=flat_at HBI.out hr
       have hltj:(j:Int)<(b.length:Int):=by omega
       have hnF:(bs.take i).flatten.length+j<bs.flatten.length:=(List.getElem?_eq_some_iff.1 hFr).1
       have hok:=ldSto_ok (wm:=wm) HFI.out.1.ord HFI.out.2.2.2 (Nat.le_of_lt hnF)
       have hks:r.key.size≤64:=by
        have hm:b∈bs:=List.mem_of_getElem? HBI.out
        have:=(HFI.out.1.ok b hm).fits r (List.mem_of_getElem? hr)
        simp only [Rec.fits,decide_eq_true_eq] at this
        omega
       obtain ⟨tga,htga⟩:∃ tga,tga=tgq.more wr.heap.size J 0:=⟨_,rfl⟩
       have tao:∀ k,k<wr.heap.size→tga k=tgq k:=fun k hk=>by rw [htga];exact Tags.more_old hk
       have tan:∀ k,wr.heap.size≤k→tga k=(J,0):=fun k hk=>by rw [htga];exact Tags.more_new hk
       have qa:Q wr (wr.alloc (.cells #[.string r.key,.int .i64 r.stamp,.int .i64 r.kind,.string r.body] 62)):=(Q.refl wr).alloc _ _
       have hSa:StoAt (wr.alloc (.cells #[.string r.key,.int .i64 r.stamp,.int .i64 r.kind,.string r.body] 62)) tga o s d (ldSto wm bs.flatten ((bs.take i).flatten.length+j)) [] []:=hSq.keep qa.below.size tao (fun k hk _=>qa.below.block k hk)
       have hKa:Kept (·=o) tgR w3 tga (wr.alloc (.cells #[.string r.key,.int .i64 r.stamp,.int .i64 r.kind,.string r.body] 62)):=hKq.trans (Kept.of_q qa tao)
       have hvn:=varN_new wr [.string r.key,.int .i64 r.stamp,.int .i64 r.kind,.string r.body] 62
       obtain ⟨wa,hwa⟩:∃ wa,wa=wr.alloc (.cells #[.string r.key,.int .i64 r.stamp,.int .i64 r.kind,.string r.body] 62):=⟨_,rfl⟩
       rw [←hwa] at hSa hKa hvn
       have n0:=hvn.cell 0 rfl
       have n1:=hvn.cell 1 rfl
       have GE:Hid _:=fun (W:World) (q:Q wa W)=>newestGet (hSa.kept q) hok r.key
       have HSA:Hid (StoAt wa tga o s d (ldSto wm bs.flatten ((bs.take i).flatten.length+j)) [] []∧Kept (·=o) tgR w3 tga wa):=⟨hSa,hKa⟩
       have HOK:Hid ((ldSto wm bs.flatten ((bs.take i).flatten.length+j)).Ok):=hok
       have HTA:Hid (∀ k,wr.heap.size≤k→tga k=(J,0)):=tan
       subst hbo
       have hnw:(ldSto wm bs.flatten ((bs.take i).flatten.length+j)).newest=S.news (bs.flatten.take ((bs.take i).flatten.length+j)):=rfl
       rw [hnw] at GE
       obtain ⟨gv,hgv⟩:∃ gv,gv=(S.lookK (S.news (bs.flatten.take ((bs.take i).flatten.length+j))) r.key).getD 0:=⟨_,rfl⟩
       rw [←hgv] at GE
       rcases ld_step HFI.out.1.ord hFr with ⟨hso,hnews⟩|⟨hno,hnews,hless⟩
       ·rw [hso] at GE
        have HNX:Hid (ldSto wm bs.flatten ((bs.take i).flatten.length+(j+1))=ldSto wm bs.flatten ((bs.take i).flatten.length+j)):=by
         show ldSto _ _ _=ldSto _ _ _
         unfold ldSto
         rw [←Nat.add_assoc,hnews]
        clear hSa hKa hvn hSq hKq hRr hRA hr hFr hok tao tan htga qa hnw hgv hso hnews hnF hks
        go_upto_region 14 with fail
        rw [←hwa]
        clear hwa
        go_region_held3 (fun w'=>w'.cell? ⟨wr.heap.size,0,none⟩=some (.string r.key))
         (first | exact n0 | exact hS4)
         (first | (go_at_call 64;refine (GE.out _ ((Q.refl wa).drew)).mono ?_;rintro e w4 ⟨rfl,q4⟩;have q4':Q wa w4:=(Q.refl wa).drew.trans q4;have hS4:w4.cell? ⟨wr.heap.size,0,none⟩=some (.string r.key):=kept_cell n0 q4'))
        all_goals
         have HRE:Hid (Kept (·=o) tgR w3 tga w4∧StoAt w4 tga o s d (ldSto wm bs.flatten ((bs.take i).flatten.length+(j+1))) [] []):=⟨HSA.out.2.trans (Kept.of_q q4' (fun _ _=>rfl)),by rw [HNX.out];exact HSA.out.1.kept q4'⟩
         clear q4 q4' hS4 GE
         go_wp2_with fail
         go_roundw
         case rel=>exact ⟨j+1,tga,by go_num,by omega,HRE.out.1,HRE.out.2⟩
         case measure=>simp [intOf];omega
       ·rw [hno] at GE
        have HNX:Hid (ldSto wm bs.flatten ((bs.take i).flatten.length+(j+1))={ ldSto wm bs.flatten ((bs.take i).flatten.length+j) with newest:=(ldSto wm bs.flatten ((bs.take i).flatten.length+j)).newest++[(r.key,r.stamp)]}):=by
         show ldSto _ _ _=_
         unfold ldSto
         rw [←Nat.add_assoc,hnews]
        have PN:Hid _:=fun (W:World) (q:Q wa W)=>sputNewest (hSa.kept q) hok.nwUp r.key hless (by have:=hok.nwFew;omega) r.stamp
        have CL:Hid _:=fun (W:World)=>clone_any r.key W (by omega)
        clear hSa hKa hvn hSq hKq hRr hRA hr hFr hok tao tan htga qa hnw hgv hno hnews hless hnF hks
        go_upto_region 14 with fail
        rw [←hwa]
        clear hwa
        go_region_held3 (fun w'=>w'.cell? ⟨wr.heap.size,0,none⟩=some (.string r.key))
         (first | exact n0 | exact hS4)
         (first | (go_at_call 64;refine (GE.out _ ((Q.refl wa).drew)).mono ?_;rintro e w4 ⟨rfl,q4⟩;have q4':Q wa w4:=(Q.refl wa).drew.trans q4;have hS4:w4.cell? ⟨wr.heap.size,0,none⟩=some (.string r.key):=kept_cell n0 q4'))
        all_goals
         have m0:=kept_cell n0 q4'
         have m1:=kept_cell n1 q4'
         clear q4 hS4 GE n0 n1
         go_upto_region 16 with fail
         go_region_held3 (fun w'=>w'.cell? ⟨wr.heap.size,0,none⟩=some (.string r.key)∧w'.cell? ⟨wr.heap.size,1,none⟩=some (.int .i64 r.stamp))
          (first | exact ⟨m0,m1⟩ | exact hS5 | exact hS6)
          (first | (go_at_call 47;refine (CL.out _).mono ?_;rintro e w5 ⟨rfl,q5⟩;have q5':Q w4 w5:=(Q.refl w4).drew.trans ⟨q5⟩;have hS5:w5.cell? ⟨wr.heap.size,0,none⟩=some (.string r.key)∧w5.cell? ⟨wr.heap.size,1,none⟩=some (.int .i64 r.stamp):=⟨kept_cell m0 q5',kept_cell m1 q5'⟩) | (go_at_call 65;refine (PN.out _ (q4'.trans q5')).mono ?_;rintro e w6 ⟨rfl,tg6,ht6,hS6',ho6⟩;have hb6:w6.heap[wr.heap.size]?=w5.heap[wr.heap.size]?:=ho6.block _ (cell_lt hS5.1) (by rw [HTA.out _ (Nat.le_refl _)];exact hJo);have hS6:w6.cell? ⟨wr.heap.size,0,none⟩=some (.string r.key)∧w6.cell? ⟨wr.heap.size,1,none⟩=some (.int .i64 r.stamp):=⟨(World.cell?_of_block (a:=⟨wr.heap.size,0,none⟩) hb6).trans hS5.1,(World.cell?_of_block (a:=⟨wr.heap.size,1,none⟩) hb6).trans hS5.2⟩))
         all_goals
          have HRE:Hid (Kept (·=o) tgR w3 tg6 w6∧StoAt w6 tg6 o s d (ldSto wm bs.flatten ((bs.take i).flatten.length+(j+1))) [] []):=⟨(HSA.out.2.trans (Kept.of_q (q4'.trans q5') (fun _ _=>rfl))).trans (Kept.of_only ho6 ht6 rfl),by rw [HNX.out];exact hS6'⟩
          clear q4' q5' q5 hS5 hS6 hS6' ho6 ht6 hb6 m0 m1 PN CL
          go_wp2_with fail
          go_roundw
          case rel=>exact ⟨j+1,tg6,by go_num,by omega,HRE.out.1,HRE.out.2⟩
          case measure=>simp [intOf];omega
      ·obtain rfl:j=b.length:=by omega
       have HRO:Hid (Kept (·=o) tg2 w2 tgq wr∧StoAt wr tgq o s d (ldSto wm bs.flatten (bs.take (i+1)).flatten.length) [] []):=⟨HS3.out.1.trans hKq,by rw [flat_len HBI.out];exact hSq⟩
       clear hRr hKq hSq
       go_wp2_with fail
       go_roundw
       case rel=>exact ⟨i+1,tgq,by go_num,hlt,HRO.out.1,HRO.out.2⟩
       case measure=>simp [intOf];omega
    ·have HB:Hid bad:=hbad
     have HKE:Hid (Kept (·=o) tg w tg1 w3):=(HW2.out.1.trans HST.out.1).trans (Kept.of_q q3 (fun _ _=>rfl))
     clear hbad
     go_wp2_with fail
     go_ret
     exact ⟨tg1,HKE.out,Or.inr ⟨HB.out,rfl⟩⟩
   ·obtain rfl:i=bs.length:=by omega
    have HEN:Hid (LoadEnd tg o s d bs wm bad w (.returned (.int .i64 0)) wr):=⟨tg1,hK0.trans hK,Or.inl ⟨rfl,by simpa using hSt⟩⟩
    clear hK hSt hVr hEr hTr
    go_wp2_with fail
    go_ret
    exact HEN.out
 ·have HB:Hid bad:=hbad
  have HQ:Hid (Q w w1):=q1
  clear hbad q1
  unfold noLay
  go_wp2_with fail
  go_ret
  exact ⟨tg,Kept.of_q (HQ.out.alloc _ _) (fun _ _=>rfl),Or.inr ⟨HB.out,rfl⟩⟩
def finTags (n:Nat) (tg tgE:Tags) (o od j:Nat):Tags:=fun k=>if k<n then tg k else if (tgE k).1=o∨(tgE k).1=od then tgE k else (j,0)
theorem finTags_old {n:Nat} {tg tgE:Tags} {o od j k:Nat} (h:k<n):finTags n tg tgE o od j k=tg k:=by simp [finTags,h]
theorem finTags_low {w w':World} {tg tgE:Tags} {o od j m:Nat} (hl:Low m tg w) (ho:o<m) (hod:od<m) (hj:j<m):Low m (finTags w.heap.size tg tgE o od j) w':=fun k _=>by
 unfold finTags
 split
 ·rename_i h;exact hl k h
 split
 ·rename_i h;rcases h with h | h<;>rw [h]<;>assumption
 ·exact hj
theorem finTags_same {w:World} {tg tgE:Tags} {o od j k:Nat} (ht:∀ k,k<w.heap.size→tgE k=tg k) (h:(tgE k).1=o∨(tgE k).1=od):finTags w.heap.size tg tgE o od j k=tgE k:=by
 unfold finTags
 by_cases hk:k<w.heap.size
 ·rw [if_pos hk];exact (ht k hk).symm
 ·rw [if_neg hk,if_pos h]
def OpenEnd (tg:Tags) (o od m d:Nat) (T0:S.Two) (bs:List (List Rec)) (wm:Int) (bad:Prop) (w:World) (e:Ending) (w':World):Prop:=
 ∃ (tg':Tags) (ids' ps':List Nat),Kept (·=od) tg w tg' w'∧Low m tg' w' ∧
  ((bad∧e=.returned (.tuple #[.pointer none,.int .i64 3])∧LDiskAt w' tg' od d T0.dsk ids' ps')
  ∨ ((S.settle T0.dsk).2≠0∧e=.returned (.tuple #[.pointer none,.int .i64 ((S.settle T0.dsk).2:Nat)])∧LDiskAt w' tg' od d (S.settle T0.dsk).1 ids' ps')
  ∨ ((S.settle T0.dsk).2=0∧∃ s,w.heap.size≤s∧e=.returned (.tuple #[.pointer (some ⟨s,0,none⟩),.int .i64 0])∧StoAt w' tg' o s d (ldSto wm bs.flatten bs.flatten.length) [] []∧LDiskAt w' tg' od d (S.settle T0.dsk).1 ids' ps'))
theorem open_any {w:World} {tg:Tags} {o od m d:Nat} {T0:S.Two} {bs:List (List Rec)} {C:S.Con} {bad:Prop} {wm:Int} {ids' ps':List Nat} (hD:LDiskAt w tg od d T0.dsk ids' ps') (hF:T0.dsk.Fine) (hO:OnDisk bad T0.dsk bs wm) (hfil:S.Fil theAp bs C) (hT:Tab w) (hfew:bs.flatten.length≤1048000) (hlow:Low m tg w) (ho:∀ k,k<w.heap.size→(tg k).1≠o) (hom:o<m) (hodm:od<m) :
  Calls Tryz.prog 18 #[.pointer (some ⟨d,0,none⟩)] w fun e w'=>OpenEnd tg o od m d T0 bs wm bad w e w':=by
 have hG:=tab_lt hT
 have hGo:=ho _ hG
 have hne:o≠od:=fun e=>ho d hD.map.top (by rw [hD.map.td,e])
 obtain ⟨J,hJ⟩:∃ J,J=(tg 1).1:=⟨_,rfl⟩
 obtain ⟨tgA,htgA⟩:∃ tgA:Tags,tgA=fun k=>if k<w.heap.size then tg k else if k=w.heap.size then (o,0) else (J,0):=⟨_,rfl⟩
 have tA0:∀ k,k<w.heap.size→tgA k=tg k:=fun k hk=>by rw [htgA];simp [hk]
 have tAs:tgA w.heap.size=(o,0):=by rw [htgA];show (if _ then _ else _)=_;rw [if_neg (by omega),if_pos rfl]
 have qa:Q w (w.alloc (.cells #[.pointer (some ⟨d,0,none⟩),.bool false,.int .i64 0,.int .i64 0,.slice none 0 0,.slice none 0 0,.slice none 0 0,.slice none 0 0] 70)):=(Q.refl w).alloc _ _
 have hv:=varN_new w [.pointer (some ⟨d,0,none⟩),.bool false,.int .i64 0,.int .i64 0,.slice none 0 0,.slice none 0 0,.slice none 0 0,.slice none 0 0] 70
 have hfr:∀ j,(w.alloc (.cells #[.pointer (some ⟨d,0,none⟩),.bool false,.int .i64 0,.int .i64 0,.slice none 0 0,.slice none 0 0,.slice none 0 0,.slice none 0 0] 70)).frozen? ⟨w.heap.size,j,none⟩=false:=fun j=>by simp
 have hS:StoAt (w.alloc (.cells #[.pointer (some ⟨d,0,none⟩),.bool false,.int .i64 0,.int .i64 0,.slice none 0 0,.slice none 0 0,.slice none 0 0,.slice none 0 0] 70)) tgA o w.heap.size d ⟨false,0,0,[],[]⟩ [] []:=
  ⟨hv.1,tAs,hfr,hv.cell 0 rfl,hv.cell 1 rfl,hv.cell 2 rfl,hv.cell 3 rfl,KMap.empty hv.1 (hv.cell 4 rfl) (hv.cell 5 rfl),KMap.empty hv.1 (hv.cell 6 rfl) (hv.cell 7 rfl),List.nodup_nil,rfl,fun i p id kr h1=>by simp at h1⟩
 have hDa:LDiskAt (w.alloc (.cells #[.pointer (some ⟨d,0,none⟩),.bool false,.int .i64 0,.int .i64 0,.slice none 0 0,.slice none 0 0,.slice none 0 0,.slice none 0 0] 70)) tgA od d T0.dsk ids' ps':=hD.keep qa.below.size tA0 (fun k hk _=>qa.below.block k hk)
 have LO:Hid _:=fun (_:Unit)=>load_any hS hDa hF hO hfil (tab_kept hT qa) (by rw [tA0 _ hG];exact hGo) hfew
 have HK:Hid (Kept (fun x=>x=o∨x=od) tg w tgA (w.alloc (.cells #[.pointer (some ⟨d,0,none⟩),.bool false,.int .i64 0,.int .i64 0,.slice none 0 0,.slice none 0 0,.slice none 0 0,.slice none 0 0] 70))):=Kept.of_q qa tA0
 have HDA:Hid _:=hDa
 have HF:Hid T0.dsk.Fine:=hF
 have HLow:Hid (Low m tg w∧(∀ k,k<w.heap.size→(tg k).1≠o)∧J<m):=⟨hlow,ho,by rw [hJ];exact hlow _ hG⟩
 have fin:∀ (w':World) (tgE:Tags),Kept (fun x=>x=o∨x=od) tg w tgE w'→Kept (·=od) tg w (finTags w.heap.size tg tgE o od J) w'∧Low m (finTags w.heap.size tg tgE o od J) w':=fun w' tgE k=>⟨⟨k.os,k.tape,k.output,k.size,fun i hi=>finTags_old hi,fun i hi hn=>k.block i hi (fun e=>e.elim (HLow.out.2.1 i hi) hn)⟩,finTags_low HLow.out.1 hom hodm HLow.out.2.2⟩
 have HFN:Hid (∀ (w':World) (tgE:Tags),Kept (fun x=>x=o∨x=od) tg w tgE w'→Kept (·=od) tg w (finTags w.heap.size tg tgE o od J) w'∧Low m (finTags w.heap.size tg tgE o od J) w'):=fin
 clear hD hF hO hfil hT hfew hlow ho hv hfr hS hDa qa htgA tA0 tAs fin hG hGo hJ
 go_enter Tryz.func18,Tryz.ntmps18
 go_wp2_with fail
 refine (LO.out ()).mono ?_
 rintro e w1 ⟨tg1,hK1,hc⟩
 have hKw:=HK.out.trans (hK1.wider (fun x e=>Or.inl e))
 have hD1:LDiskAt w1 tg1 od d T0.dsk ids' ps':=HDA.out.keep hK1.size hK1.tags (fun k hk e=>hK1.block k hk (by rw [e];exact fun e=>hne e.symm))
 rcases hc with ⟨rfl,hS1⟩|⟨hbad,rfl⟩
 ·have SE:Hid _:=fun (_:Unit)=>settle_any tg1 od d T0.dsk ids' ps' HF.out w1 hD1
  obtain ⟨⟨D2,c2⟩,hse⟩:∃ p,p=S.settle T0.dsk:=⟨_,rfl⟩
  have HSE:Hid (S.settle T0.dsk=(D2,c2)):=hse.symm
  rw [←hse] at SE
  simp only at SE
  have H1:Hid (StoAt w1 tg1 o w.heap.size d (ldSto wm bs.flatten bs.flatten.length) [] []∧Kept (fun x=>x=o∨x=od) tg w tg1 w1):=⟨hS1,hKw⟩
  clear hse LO hK1 hS1 hD1 hKw HDA HK
  go_wp2_with fail
  refine (SE.out ()).mono ?_
  rintro e w2 ⟨rfl,tg2,ids2,ps2,ht2,hL2,ho2⟩
  have hK2:=H1.out.2.trans (Kept.of_only ho2 ht2 (Or.inr rfl))
  have hS2:StoAt w2 tg2 o w.heap.size d (ldSto wm bs.flatten bs.flatten.length) [] []:=H1.out.1.keep ho2.size ht2 (fun k hk e=>ho2.block k hk (by rw [e];exact hne))
  have HE2:Hid (Kept (fun x=>x=o∨x=od) tg w tg2 w2∧StoAt w2 tg2 o w.heap.size d (ldSto wm bs.flatten bs.flatten.length) [] []∧LDiskAt w2 tg2 od d D2 ids2 ps2):=⟨hK2,hS2,hL2⟩
  clear SE ht2 hL2 ho2 hK2 hS2
  by_cases hc0:c2=0
  ·subst hc0
   go_wp2_with fail
   refine bodyPost_ret (v:=.tuple #[.pointer (some ⟨w.heap.size,0,none⟩),.int .i64 0]) (by simp [results,Tryz.results18,go_sem]) rfl ?_
   obtain ⟨hK2,hS2,hL2⟩:=HE2.out
   obtain ⟨f1,f2⟩:=HFN.out w2 tg2 hK2
   refine ⟨_,ids2,ps2,f1,f2,Or.inr (Or.inr ⟨by rw [HSE.out],w.heap.size,Nat.le_refl _,rfl,hS2.retag (fun k _ e=>finTags_same hK2.tags (Or.inl e)),?_⟩)⟩
   rw [HSE.out]
   exact hL2.retag (fun k _ e=>finTags_same hK2.tags (Or.inr e))
  ·have hcI:¬(c2:Int)=0:=by omega
   have hcb:((c2:Int) != 0)=true:=by simp [hc0]
   have HC0:Hid (c2≠0):=hc0
   clear hc0
   go_wp2_with fail
   refine bodyPost_ret (v:=.tuple #[.pointer none,.int .i64 (c2:Int)]) (by simp [results,Tryz.results18,go_sem]) rfl ?_
   obtain ⟨hK2,hS2,hL2⟩:=HE2.out
   obtain ⟨f1,f2⟩:=HFN.out w2 tg2 hK2
   refine ⟨_,ids2,ps2,f1,f2,Or.inr (Or.inl ⟨by rw [HSE.out];exact HC0.out,by rw [HSE.out],?_⟩)⟩
   rw [HSE.out]
   exact hL2.retag (fun k _ e=>finTags_same hK2.tags (Or.inr e))
 ·have HB:Hid bad:=hbad
  have HE1:Hid (Kept (fun x=>x=o∨x=od) tg w tg1 w1∧LDiskAt w1 tg1 od d T0.dsk ids' ps'):=⟨hKw,hD1⟩
  clear hbad LO hK1 hD1 hKw HDA HK
  go_wp2_with fail
  refine bodyPost_ret (v:=.tuple #[.pointer none,.int .i64 3]) (by simp [results,Tryz.results18,go_sem]) rfl ?_
  obtain ⟨hK2,hL2⟩:=HE1.out
  obtain ⟨f1,f2⟩:=HFN.out w1 tg1 hK2
  exact ⟨_,ids',ps',f1,f2,Or.inl ⟨HB.out,rfl,hL2.retag (fun k _ e=>finTags_same hK2.tags (Or.inr e))⟩⟩
end Go.Proofs.YtekdenkllipehabGreatDoor
namespace Go.Proofs.YtekdenkllipehabGreatDoor.S
open Go.RowKit
structure Fact where
 key:ByteArray
 stamp:Int
 value:ByteArray
 there:Bool
def Fact.vs (f:Fact):Vs:=⟨f.stamp,if f.there=true then some f.value else none⟩
def fv (L:List Fact) (k:ByteArray):List Vs:=((L.filter fun f=>decide (f.key=k)).map Fact.vs).reverse
theorem fv_snoc (L:List Fact) (f:Fact) (k:ByteArray):fv (L++[f]) k=if f.key=k then f.vs::fv L k else fv L k:=by
 unfold fv
 rw [List.filter_append]
 by_cases h:f.key=k
 ·rw [if_pos h];simp [h]
 ·rw [if_neg h];simp [h]
theorem fv_mem {L:List Fact} {k:ByteArray} {v:Vs} (h:v∈fv L k):∃ f∈L,f.key=k∧f.vs=v:=by
 unfold fv at h
 rw [List.mem_reverse,List.mem_map] at h
 obtain ⟨f,hf,rfl⟩:=h
 rw [List.mem_filter] at hf
 exact ⟨f,hf.1,by simpa using hf.2,rfl⟩
theorem fv_length (L:List Fact) (k:ByteArray):(fv L k).length≤L.length:=by
 unfold fv
 rw [List.length_reverse,List.length_map]
 exact List.length_filter_le ..
def Fact.cost (f:Fact):Nat:=26+2*f.key.size+f.value.size
def costF (L:List Fact):Nat:=(L.map Fact.cost).sum
theorem costF_length:∀ L:List Fact,26*L.length≤costF L
 | []=>by simp
 | f::L=>by
  have:=costF_length L
  simp only [costF,List.map_cons,List.sum_cons,List.length_cons,Fact.cost] at this ⊢
  omega
structure FactsOk (L:List Fact) (clock:Int):Prop where
 up:L.Pairwise fun a b=>a.stamp<b.stamp
 top:∀ f∈L,0≤f.stamp∧f.stamp≤clock
 key:∀ f∈L,1≤f.key.size∧f.key.size≤64
 val:∀ f∈L,f.value.size≤4096
 gone:∀ f∈L,f.there=false→f.value=⟨#[]⟩
theorem FactsOk.snoc {L:List Fact} {clock:Int} (h:FactsOk L clock) {f:Fact} (h1:∀ g∈L,g.stamp<f.stamp) (h0:0≤f.stamp) (h2:1≤f.key.size∧f.key.size≤64) (h3:f.value.size≤4096) (h4:f.there=false→f.value=⟨#[]⟩):FactsOk (L++[f]) f.stamp:=by
 have hm:∀ x,x∈L++[f]→x∈L∨x=f:=fun x hx=>by simpa using hx
 refine ⟨?_,fun x hx=>?_,fun x hx=>?_,fun x hx=>?_,fun x hx=>?_⟩
 ·rw [List.pairwise_append]
  refine ⟨h.up,by simp,fun a ha b hb=>?_⟩
  have:b=f:=by simpa using hb
  rw [this]
  exact h1 a ha
 ·rcases hm x hx with hx|rfl
  ·have:=h.top x hx;have:=h1 x hx;omega
  ·omega
 ·rcases hm x hx with hx|rfl
  ·exact h.key x hx
  ·exact h2
 ·rcases hm x hx with hx|rfl
  ·exact h.val x hx
  ·exact h3
 ·rcases hm x hx with hx|rfl
  ·exact h.gone x hx
  ·exact h4
theorem FactsOk.falling {L:List Fact} {clock:Int} (h:FactsOk L clock) (k:ByteArray):(fv L k).Pairwise fun a b=>b.stamp<a.stamp:=by
 unfold fv
 rw [List.pairwise_reverse,List.pairwise_map]
 exact h.up.sublist List.filter_sublist
def lastFact (L:List Fact) (k:ByteArray) (t:Int):Option Fact:=(L.filter fun f=>decide (f.key=k) && decide (f.stamp≤t)).getLast?
theorem told_fact {L:List Fact} {clock:Int} (h:FactsOk L clock) (k:ByteArray) (t:Int):told (firstAt (fv L k) t)=match lastFact L k t with | some f=>(f.value,f.there) | none=>(⟨#[]⟩,false):=by
 have e:firstAt (fv L k) t=(lastFact L k t).map Fact.vs:=by
  unfold firstAt fv lastFact
  rw [←last_filter,List.filter_map,List.getLast?_map,List.filter_filter]
  congr 2
  apply List.filter_congr
  intro f _
  simp only [Function.comp,Fact.vs]
  exact Bool.and_comm _ _
 rw [e]
 cases hl:lastFact L k t with
 | none=>rfl
 | some f =>
  have hm:f∈L:=by
   unfold lastFact at hl
   exact (List.mem_filter.1 (List.mem_of_getLast? hl)).1
  simp only [Option.map_some,Fact.vs]
  cases ht:f.there with
  | true=>simp [told]
  | false=>simp [told,h.gone f hm ht]
def Keeps (X:Sto) (C:Con) (L:List Fact):Prop:=∀ k,∃ n,X.con C k=(fv L k).take n∧needs X.wm (fv L k)≤n
theorem Keeps.told {X:Sto} {C:Con} {L:List Fact} (h:Keeps X C L) {t:Int} (ht:X.wm≤t) (k:ByteArray):told (firstAt (X.con C k) t)=told (firstAt (fv L k) t):=by
 obtain ⟨n,h1,h2⟩:=h k
 rw [h1,←needs_told ht ((fv L k).take n),needs_prefix h2,List.take_take,Nat.min_eq_left h2]
 exact needs_told ht _
theorem Keeps.mem {X:Sto} {C:Con} {L:List Fact} (h:Keeps X C L) {k:ByteArray} {v:Vs} (hv:v∈X.con C k):v∈fv L k:=by
 obtain ⟨n,h1,_⟩:=h k
 rw [h1] at hv
 exact List.mem_of_mem_take hv
theorem Keeps.raise {X:Sto} {C:Con} {L:List Fact} {clock:Int} (h:Keeps X C L) (hf:FactsOk L clock) {t:Int} (ht:X.wm≤t):Keeps { X with wm:=t } C L:=fun k=>by
 obtain ⟨n,h1,h2⟩:=h k
 exact ⟨n,h1,Nat.le_trans (needs_mono ht (hf.falling k)) h2⟩
theorem Keeps.put {X:Sto} {C:Con} {L:List Fact} {r:Rec} {f:Fact} (h:Keeps X C L) (hc:(X.put r).con C=(X.con C).put r.key (ofRec r::X.con C r.key)) (hk:f.key=r.key) (hv:f.vs=ofRec r) (hs:X.wm<f.stamp):Keeps (X.put r) C (L++[f]):=fun k=>by
 have hw:(X.put r).wm=X.wm:=rfl
 obtain ⟨n,h1,h2⟩:=h k
 rw [fv_snoc,hc,hw]
 unfold Con.put
 by_cases e:k=r.key
 ·subst e
  rw [if_pos rfl,if_pos hk]
  refine ⟨n+1,by rw [List.take_succ_cons,h1,hv],?_⟩
  simp only [needs]
  rw [if_pos (show X.wm<f.vs.stamp from hs)]
  omega
 ·rw [if_neg e,if_neg (fun e2=>e (e2.symm.trans hk))]
  exact ⟨n,h1,h2⟩
theorem Keeps.flush {X:Sto} {bs:List (List Rec)} {C:Con} {L:List Fact} (h:Keeps X C L) (hg:X.Good bs C) (nw:List (ByteArray × Int)):Keeps (X.laid nw) (layC X C List.length X.keys.length) L:=fun k=>by
 obtain ⟨n,h1,h2⟩:=h k
 refine ⟨n,?_,h2⟩
 rw [Sto.con_laid,layC_all hg,List.take_length]
 exact h1
theorem Keeps.compact {X:Sto} {bs:List (List Rec)} {C:Con} {L:List Fact} (h:Keeps X C L) (hg:X.Good bs C) (nw:List (ByteArray × Int)):Keeps (X.laid nw) (layC X C (needs X.wm) X.keys.length) L:=fun k=>by
 obtain ⟨n,h1,h2⟩:=h k
 refine ⟨needs X.wm (fv L k),?_,Nat.le_refl _⟩
 rw [Sto.con_laid,layC_all hg,h1,needs_prefix h2,List.take_take,Nat.min_eq_left h2]
theorem costs_le {R:List Rec} {L:List Fact} (hR:R.Pairwise Bef) (h:∀ r∈R,∃ v∈fv L r.key,v.stamp=r.stamp∧r.body.size≤v.size):costs R≤costF L:=by
 refine sum_inj costR Fact.cost (fun r f=>f.key=r.key∧f.stamp=r.stamp) R L (hR.imp fun {a b} hab f h1 h2=>?_) (fun r hr=>?_)
 ·rcases hab with hab|hab
  ·exact kless_ne hab (h1.1.symm.trans h2.1)
  ·have:=h1.2.symm.trans h2.2
   omega
 ·obtain ⟨v,hv,h1,h2⟩:=h r hr
  obtain ⟨f,hf,hk,rfl⟩:=fv_mem hv
  refine ⟨f,hf,⟨hk,h1⟩,?_⟩
  have:f.vs.size≤f.value.size:=by
   unfold Vs.size Fact.vs
   cases f.there<;>simp
  unfold costR Fact.cost
  rw [hk]
  omega
theorem not_full {T0:Two} {V:Con} {L:List Fact} (hcap:T0.cap=1048576) (ha:len T0.a≤18+costF L) (hV:∀ k v,v∈V k→v∈fv L k) (hr:36+2*costF L≤1048576):¬Full T0 V:=by
 rintro ⟨R,h1,h2,h3⟩
 have:=costs_le (L:=L) h1 (fun r hr=>by
  obtain ⟨v,hv,h4⟩:=h2 r hr
  exact ⟨v,hV _ v hv,h4⟩)
 omega
theorem file_le {bs:List (List Rec)} {C:Con} {L:List Fact} {wm:Int} (hF:Fil theAp bs C) (hC:∀ k v,v∈C k→v∈fv L k) (hw:wm≤1099511627776) (hr:36+2*costF L≤1048576):(fileText bs wm).length≤18+costF L:=by
 have h1:=costs_le (L:=L) hF.ord (fun r hr=>by
  obtain ⟨v,hv,h4⟩:=tells_mem (hF.holds r.key).tells (mem_ofKey.2 ⟨hr,rfl⟩)
  exact ⟨v,hC _ v hv,h4⟩)
 have:=fileText_le (wm:=wm) hF.ok hw (by omega)
 omega
def Lies (T:Two) (bs:List (List Rec)) (fl:Int):Prop:=(T.a=none∧bs=[]∧fl=-1)∨T.a=some (fileText bs fl,(fileText bs fl).length)
structure RunOk (L:List Fact) (clock water:Int) (T:Two) (X:Sto) (bs:List (List Rec)) (C:Con):Prop where
 facts:FactsOk L clock
 wm:X.wm=water
 wc:water≤clock
 top:clock≤1099511627776
 dead:X.dead=false
 good:X.Good bs C
 keeps:Keeps X C L
 cap:T.cap=1048576
 a:Lies T bs X.fl
 b:T.b=none
 alive:T.dead=false
 fuse:T.fuse=0
 room:36+2*costF L≤1048576
theorem RunOk.conC {L:List Fact} {clock water:Int} {T:Two} {X:Sto} {bs:List (List Rec)} {C:Con} (h:RunOk L clock water T X bs C):∀ k v,v∈C k→v∈fv L k:=fun k v hv=>h.keeps.mem (by unfold Sto.con;exact List.mem_append.2 (Or.inr hv))
theorem RunOk.lenA {L:List Fact} {clock water:Int} {T:Two} {X:Sto} {bs:List (List Rec)} {C:Con} (h:RunOk L clock water T X bs C):len T.a≤18+costF L:=by
 rcases h.a with ⟨e,_,_⟩|e
 ·rw [e];simp [len]
 ·rw [e]
  have h1:=h.good.top
  have h2:=h.good.fl2
  have:=file_le (wm:=X.fl) h.good.fil h.conC (by omega) h.room
  simp [len]
  omega
theorem RunOk.few {L:List Fact} {clock water:Int} {T:Two} {X:Sto} {bs:List (List Rec)} {C:Con} (h:RunOk L clock water T X bs C):L.length≤20164∧bs.flatten.length≤104858:=by
 have h1:=costF_length L
 have h2:=h.room
 refine ⟨by omega,?_⟩
 have h3:=blkOf_five h.good.fil.ok
 have h4:=h.lenA
 rcases h.a with ⟨_,e,_⟩|e
 ·subst e;simp
 ·rw [e] at h4
  simp only [len,Option.map_some,Option.getD_some] at h4
  unfold fileText at h4
  rw [List.length_append] at h4
  omega
theorem RunOk.on {L:List Fact} {clock water:Int} {T:Two} {X:Sto} {bs:List (List Rec)} {C:Con} (h:RunOk L clock water T X bs C):OnDisk False T.dsk bs X.fl:=by
 refine ⟨h.alive,?_⟩
 rw [Two.read_dsk,if_neg (by rw [h.alive];simp)]
 rcases h.a with ⟨e,e2,e3⟩|e
 ·rw [e];exact Or.inl ⟨rfl,e2,e3⟩
 ·rw [e]
  have h1:=h.good.top
  have h2:=h.good.fl2
  have h3:=h.good.fl1
  have h4:=file_le (wm:=X.fl) h.good.fil h.conC (by omega) h.room
  have h5:=h.room
  exact Or.inr ⟨rfl,TextAs.whole False h.good.fil.ok h3 (by omega) (by omega)⟩
theorem RunOk.pend {L:List Fact} {clock water:Int} {T:Two} {X:Sto} {bs:List (List Rec)} {C:Con} (h:RunOk L clock water T X bs C):X.pend.length<1048000∧∀ kr∈X.pend,kr.2.length<1048000:=by
 have hl:=h.few.1
 have hk:∀ kr∈X.pend,∀ r∈kr.2,ofRec r∈fv L kr.1:=fun kr hkr r hr=>h.keeps.mem (by
  unfold Sto.con pendV
  rw [(lookK_iff h.good.ok.pdUp).2 hkr]
  exact List.mem_append.2 (Or.inl (List.mem_map.2 ⟨r,List.mem_reverse.2 hr,rfl⟩)))
 constructor
 ·have h1:=sum_inj (fun _:ByteArray=>1) (fun _:Fact=>1) (fun k f=>f.key=k) (X.pend.map (·.1)) L (h.good.ok.pdUp.imp fun {a b} hab y h1 h2=>kless_ne hab (h1.symm.trans h2)) (fun k hk2=>by
   obtain ⟨kr,hkr,rfl⟩:=List.mem_map.1 hk2
   obtain ⟨r,hr⟩:=List.exists_mem_of_ne_nil _ (h.good.ok.each kr hkr).2.1
   obtain ⟨f,hf,hfk,_⟩:=fv_mem (hk kr hkr r hr)
   exact ⟨f,hf,hfk,Nat.le_refl _⟩)
  rw [sum_ones,sum_ones,List.length_map] at h1
  omega
 ·intro kr hkr
  obtain ⟨n,h1,_⟩:=h.keeps kr.1
  have h2:(X.con C kr.1).length≤L.length:=by
   rw [h1,List.length_take]
   have:=fv_length L kr.1
   omega
  have h3:kr.2.length≤(X.con C kr.1).length:=by
   unfold Sto.con pendV
   rw [(lookK_iff h.good.ok.pdUp).2 hkr]
   simp
  omega
def Fact.rc (f:Fact):Rec:=⟨f.key,f.stamp,if f.there=true then 0 else 2,f.value⟩
theorem RunOk.adding {L:List Fact} {clock water:Int} {T:Two} {X:Sto} {bs:List (List Rec)} {C:Con} (h:RunOk L clock water T X bs C) {f:Fact} (h1:∀ g∈L,g.stamp<f.stamp) (hw1:water<f.stamp) (h0:0≤f.stamp) (ht:f.stamp≤1099511627776) (h2:1≤f.key.size∧f.key.size≤64) (h3:f.value.size≤4096) (h4:f.there=false→f.value=⟨#[]⟩):X.adding f.rc=0∧PRec f.key f.rc∧ofRec f.rc=f.vs∧∀ kr∈X.pend,kr.1=f.key→∀ x∈kr.2,x.stamp<f.stamp:=by
 have hlat:X.latest f.key<f.stamp:=by
  rw [h.good.latest f.key]
  have:=h.wm
  have:=h.wc
  cases hc:(X.con C f.key).head? with
  | none=>simp only;omega
  | some v =>
   have hv:v∈fv L f.key:=h.keeps.mem (List.mem_of_mem_head? (by rw [hc];rfl))
   obtain ⟨g,hg,_,rfl⟩:=fv_mem hv
   have:=h1 g hg
   simp only [Int.max_def]
   have e:g.vs.stamp=g.stamp:=rfl
   split<;>omega
 have ha:X.adding f.rc=0:=by
  unfold Sto.adding
  rw [h.dead,if_neg (by simp),if_neg (by show ¬¬(1≤f.key.size∧f.key.size≤64);simp;exact h2),if_neg (by show ¬4096<f.value.size;omega),if_neg (by show ¬(1099511627776<f.stamp∨f.stamp≤X.latest f.key);omega)]
 have hb:f.there=false→f.value.size=0:=fun e=>by rw [h4 e];rfl
 refine ⟨ha,⟨rfl,?_,?_,h3⟩,?_,pend_stamps h.good.ok (r:=f.rc) (h.good.put_stamps ha)⟩
 ·unfold Rec.fits Fact.rc
  apply decide_eq_true
  refine ⟨h2.1,h2.2,by simp only;omega,h0,ht,?_,?_⟩
  ·simp only;split<;>omega
  ·simp only;split<;>omega
 ·unfold Fact.rc
  cases hf:f.there with
  | true=>exact Or.inl rfl
  | false=>exact Or.inr ⟨rfl,hb hf⟩
 ·unfold ofRec Fact.vs Fact.rc
  cases f.there<;>simp
theorem RunOk.say {L:List Fact} {clock water:Int} {T:Two} {X:Sto} {bs:List (List Rec)} {C:Con} (h:RunOk L clock water T X bs C) {f:Fact} (h1:∀ g∈L,g.stamp<f.stamp) (hw1:water<f.stamp) (h0:0≤f.stamp) (ht:f.stamp≤1099511627776) (h2:1≤f.key.size∧f.key.size≤64) (h3:f.value.size≤4096) (h4:f.there=false→f.value=⟨#[]⟩) (hr:36+2*costF (L++[f])≤1048576):RunOk (L++[f]) f.stamp water T (X.put f.rc) bs C:=by
 obtain ⟨a1,a2,a3,a4⟩:=h.adding h1 hw1 h0 ht h2 h3 h4
 obtain ⟨g1,g2⟩:=h.good.put a1 a2 h.pend
 have hw:=h.wm
 have hwc:=h.wc
 exact ⟨h.facts.snoc h1 h0 h2 h3 h4,h.wm,by omega,ht,h.dead,g1,h.keeps.put g2 rfl a3.symm (by rw [hw];omega),h.cap,h.a,h.b,h.alive,h.fuse,hr⟩
theorem RunOk.raise {L:List Fact} {clock water:Int} {T:Two} {X:Sto} {bs:List (List Rec)} {C:Con} (h:RunOk L clock water T X bs C) {t:Int} (h1:water≤t) (h2:t≤clock):X.raising t=0∧RunOk L clock t T { X with wm:=t } bs C:=by
 have hw:=h.wm
 have ht:=h.top
 have ha:X.raising t=0:=by
  unfold Sto.raising
  rw [h.dead,if_neg (by simp),if_neg (by omega)]
 exact ⟨ha,h.facts,rfl,h2,h.top,h.dead,h.good.raise ha,h.keeps.raise h.facts (by omega),h.cap,h.a,h.b,h.alive,h.fuse,h.room⟩
theorem RunOk.laid {L:List Fact} {clock water:Int} {T T':Two} {X X':Sto} {bs:List (List Rec)} {C V:Con} (h:RunOk L clock water T X bs C) (hg:LayGood T X V X' T') (hk:∀ nw,Keeps (X.laid nw) V L):∃ bs',RunOk L clock water T' X' bs' V∧X'.isPending=false:=by
 obtain ⟨bs',nw,rfl,h1,h2,h3,h4,h5,h6,h7,h8⟩:=hg
 refine ⟨bs',⟨h.facts,h.wm,h.wc,h.top,h.dead,h.good.laid h1 h2 (by omega),hk nw,h4.trans h.cap,Or.inr h5,h6,h7,h8 h.fuse,h.room⟩,?_⟩
 unfold Sto.isPending Sto.laid
 simp
theorem RunOk.notBad {L:List Fact} {clock water:Int} {T T':Two} {X X':Sto} {bs:List (List Rec)} {C V:Con} {c:Nat} (h:RunOk L clock water T X bs C) (hV:∀ k v,v∈V k→v∈fv L k):¬LayBad T X V False c X' T':=by
 rintro (⟨_,_,hd⟩|⟨_,_,_,hf⟩|⟨hf,_⟩)
 ·exact hd.armed h.fuse
 ·exact not_full h.cap h.lenA hV h.room hf
 ·exact hf
end Go.Proofs.YtekdenkllipehabGreatDoor.S
namespace Go.Proofs.YtekdenkllipehabGreatDoor
open Go.RowKit
def S.Fact.cells (f:S.Fact):List Value:=[.string f.key,.int .i64 f.stamp,.string f.value,.bool f.there]
def S.Fact.val (f:S.Fact):Value:=.agg #[.string f.key,.int .i64 f.stamp,.string f.value,.bool f.there]
def factCells (L:List S.Fact):List Value:=(L.map S.Fact.cells).flatten
theorem factCells_snoc (L:List S.Fact) (f:S.Fact):factCells (L++[f])=factCells L++f.cells:=by simp [factCells]
theorem factCells_at:∀ {L:List S.Fact} {i:Nat} {f:S.Fact} (j:Nat),L[i]?=some f→j<4→(factCells L)[i*4+j]?=f.cells[j]?
 | [],i,f,j,h,_=>by simp at h
 | x::L,0,f,j,h,hj=>by
  simp only [List.getElem?_cons_zero,Option.some.injEq] at h
  subst h
  have e:factCells (x::L)=x.cells++factCells L:=by simp [factCells]
  rw [e,Nat.zero_mul,Nat.zero_add,List.getElem?_append_left (by simp [S.Fact.cells];omega)]
 | x::L,i+1,f,j,h,hj=>by
  have e:factCells (x::L)=x.cells++factCells L:=by simp [factCells]
  have hl:x.cells.length=4:=rfl
  rw [e,List.getElem?_append_right (by rw [hl];omega),hl]
  have:=factCells_at (L:=L) (i:=i) (f:=f) j (by simpa using h) hj
  rw [←this]
  congr 1
  omega
theorem infoF:(Tryz.prog.info? 26).map (fun i=>(i.zero,i.size,i.bytes))=some (some (.agg #[.string ⟨#[]⟩,.int .i64 0,.string ⟨#[]⟩,.bool false]),4,48):=by kernel_rfl
theorem fact_one (f:S.Fact):∀ u∈f.cells,u.oneCell'=true:=fun u hu=>by
 simp only [S.Fact.cells,List.mem_cons,List.mem_nil_iff,or_false] at hu
 rcases hu with rfl | rfl | rfl | rfl<;>rfl
theorem fact_cells_to (w:World) (f:S.Fact) (t:TypeId) (n:Nat) (hn:w.heap.size=n):∀ j u,f.cells[j]?=some u→(w.alloc (.cells #[.string f.key,.int .i64 f.stamp,.string f.value,.bool f.there] t)).cell? ((⟨n,0,none⟩:Addr).add j)=some u:=by
 subst hn
 intro j u hu
 match j with
 | 0=>simp [S.Fact.cells] at hu;subst hu;simp [Addr.add]
 | 1=>simp [S.Fact.cells] at hu;subst hu;simp [Addr.add]
 | 2=>simp [S.Fact.cells] at hu;subst hu;simp [Addr.add]
 | 3=>simp [S.Fact.cells] at hu;subst hu;simp [Addr.add]
 | j+4=>simp [S.Fact.cells] at hu
structure RunAt (w:World) (tg:Tags) (rr r d s:Nat) (L:List S.Fact) (clock water:Int) (ok:Bool):Prop where
 top:r<w.heap.size
 tr:tg r=(rr,0)
 fr:∀ j,w.frozen? ⟨r,j,none⟩=false
 c0:w.cell? ⟨r,0,none⟩=some (.pointer (some ⟨d,0,none⟩))
 c1:w.cell? ⟨r,1,none⟩=some (.pointer (some ⟨s,0,none⟩))
 c2:∃ ao cap,w.cell? ⟨r,2,none⟩=some (.slice ao L.length cap)∧w.ownsRow 0 26 4 (.slice ao L.length cap) L.length (factCells L)∧∀ g,(Value.slice ao L.length cap).ownBlock=some g→tg g=(rr,1)
 c3:w.cell? ⟨r,3,none⟩=some (.int .i64 clock)
 c4:w.cell? ⟨r,4,none⟩=some (.int .i64 water)
 c5:w.cell? ⟨r,5,none⟩=some (.bool ok)
theorem RunAt.keep {w w':World} {tg tg':Tags} {P:Nat→Prop} {rr r d s:Nat} {L:List S.Fact} {clock water:Int} {ok:Bool} (h:RunAt w tg rr r d s L clock water ok) (k:Kept P tg w tg' w') (hP:¬P rr):RunAt w' tg' rr r d s L clock water ok:=by
 have hB:w'.heap[r]?=w.heap[r]?:=k.block r h.top (by rw [h.tr];exact hP)
 have hc:∀ j,w'.cell? ⟨r,j,none⟩=w.cell? ⟨r,j,none⟩:=fun j=>World.cell?_of_block (a:=⟨r,j,none⟩) hB
 obtain ⟨ao,cap,a1,a2,a3⟩:=h.c2
 exact ⟨Nat.lt_of_lt_of_le h.top k.size,(k.tags r h.top).trans h.tr,fun j=>(World.frozen?_of_block (a:=⟨r,j,none⟩) hB).trans (h.fr j),(hc 0).trans h.c0,(hc 1).trans h.c1,⟨ao,cap,(hc 2).trans a1,row_keep a2 (fun g hg=>k.block g (a2.lt g hg).2 (by rw [a3 g hg];exact hP)),fun g hg=>(k.tags g (a2.lt g hg).2).trans (a3 g hg)⟩,(hc 3).trans h.c3,(hc 4).trans h.c4,(hc 5).trans h.c5⟩
theorem RunAt.kept {w w':World} {tg:Tags} {rr r d s:Nat} {L:List S.Fact} {clock water:Int} {ok:Bool} (h:RunAt w tg rr r d s L clock water ok) (q:Q w w'):RunAt w' tg rr r d s L clock water ok:=h.keep (P:=fun _=>False) (Kept.of_q q (fun _ _=>rfl)) (fun e=>e)
theorem RunAt.set {w:World} {tg:Tags} {rr r d s d' s':Nat} {L:List S.Fact} {clock water clock' water':Int} {ok ok':Bool} (h:RunAt w tg rr r d s L clock water ok) (j:Nat) (v:Value) (hj:j≠2) (h0:(if j=0 then v else .pointer (some ⟨d,0,none⟩))=.pointer (some ⟨d',0,none⟩)) (h1:(if j=1 then v else .pointer (some ⟨s,0,none⟩))=.pointer (some ⟨s',0,none⟩)) (h3:(if j=3 then v else .int .i64 clock)=.int .i64 clock') (h4:(if j=4 then v else .int .i64 water)=.int .i64 water') (h5:(if j=5 then v else .bool ok)=.bool ok'):RunAt (w.setCell ⟨r,j,none⟩ v) tg rr r d' s' L clock' water' ok':=by
 have hne:∀ i,i≠j→(⟨r,j,none⟩:Addr)≠⟨r,i,none⟩:=fun i hij e=>by injection e with _ e2;exact hij e2.symm
 have hc:∀ i u,w.cell? ⟨r,i,none⟩=some u→(w.setCell ⟨r,j,none⟩ v).cell? ⟨r,i,none⟩=some (if j=i then v else u):=fun i u hu=>by
  by_cases e:j=i
  ·subst e;rw [if_pos rfl];exact World.cell?_setCell_same _ _ _ hu
  ·rw [if_neg e,World.cell?_setCell_other _ _ _ _ (by intro e2;injection e2 with _ e3;exact e (by omega))];exact hu
 obtain ⟨ao,cap,a1,a2,a3⟩:=h.c2
 refine ⟨by simp;exact h.top,h.tr,fun i=>by rw [World.frozen?_setCell];exact h.fr i,by rw [hc 0 _ h.c0,h0],by rw [hc 1 _ h.c1,h1],⟨ao,cap,?_,row_keep a2 (fun g hg=>heap_setCell_other _ ⟨r,j,none⟩ g _ (fun e=>by have:=a3 g hg;rw [e,h.tr] at this;simp at this)),a3⟩,by rw [hc 3 _ h.c3,h3],by rw [hc 4 _ h.c4,h4],by rw [hc 5 _ h.c5,h5]⟩
 rw [hc 2 _ a1,if_neg hj]
theorem Kept.setAt {w:World} {tg:Tags} {R r j:Nat} (h:(tg R).1=r) (v:Value):Kept (·=r) tg w tg (w.setCell ⟨R,j,none⟩ v):=
 ⟨rfl,rfl,rfl,by simp,fun _ _=>rfl,fun k _ hn=>heap_setCell_other _ ⟨R,j,none⟩ k _ (by intro e;subst e;exact hn h)⟩
structure Run (w:World) (tg:Tags) (m rr o od r s d:Nat) (L:List S.Fact) (clock wc water:Int) (T:S.Two) (X:S.Sto) (bs:List (List Rec)) (C:S.Con):Prop where
 run:RunAt w tg rr r d s L clock wc true
 rdy:∃ ids ps ids' ps',Rdy w tg o od m s d T X bs C False X.fl ids ps ids' ps'
 ok:S.RunOk L clock water T X bs C
 ro:rr≠o
 rod:rr≠od
 rG:(tg 1).1≠rr
 rm:rr<m
theorem Run.q {w w':World} {tg:Tags} {m rr o od r s d:Nat} {L:List S.Fact} {clock wc water:Int} {T:S.Two} {X:S.Sto} {bs:List (List Rec)} {C:S.Con} (h:Run w tg m rr o od r s d L clock wc water T X bs C) (q:Q w w'):Run w' (junk tg w) m rr o od r s d L clock wc water T X bs C:=by
 obtain ⟨ids,ps,ids',ps',hr⟩:=h.rdy
 have hG:=tab_lt hr.tab
 have ht:∀ k,k<w.heap.size→junk tg w k=tg k:=fun k hk=>Tags.more_old hk
 exact ⟨h.run.keep (P:=fun _=>False) (Kept.of_q q ht) (fun e=>e),⟨ids,ps,ids',ps',hr.q q⟩,h.ok,h.ro,h.rod,by rw [ht _ hG];exact h.rG,h.rm⟩
def fin3 (n:Nat) (tg tgE:Tags) (o od rr j:Nat):Tags:=fun k=>if k<n then tg k else if (tgE k).1=o∨(tgE k).1=od∨(tgE k).1=rr then tgE k else (j,0)
theorem fin3_old {n:Nat} {tg tgE:Tags} {o od rr j k:Nat} (h:k<n):fin3 n tg tgE o od rr j k=tg k:=by simp [fin3,h]
theorem fin3_low {w w':World} {tg tgE:Tags} {o od rr j m:Nat} (hl:Low m tg w) (ho:o<m) (hod:od<m) (hrr:rr<m) (hj:j<m):Low m (fin3 w.heap.size tg tgE o od rr j) w':=fun k _=>by
 unfold fin3
 split
 ·rename_i h;exact hl k h
 split
 ·rename_i h;rcases h with h | h | h<;>rw [h]<;>assumption
 ·exact hj
theorem fin3_same {w:World} {tg tgE:Tags} {o od rr j k:Nat} (ht:∀ k,k<w.heap.size→tgE k=tg k) (h:(tgE k).1=o∨(tgE k).1=od∨(tgE k).1=rr):fin3 w.heap.size tg tgE o od rr j k=tgE k:=by
 unfold fin3
 by_cases hk:k<w.heap.size
 ·rw [if_pos hk];exact (ht k hk).symm
 ·rw [if_neg hk,if_pos h]
theorem RunAt.retag {w:World} {tg tg':Tags} {rr r d s:Nat} {L:List S.Fact} {clock water:Int} {ok:Bool} (h:RunAt w tg rr r d s L clock water ok) (ht:∀ k,k<w.heap.size→(tg k).1=rr→tg' k=tg k):RunAt w tg' rr r d s L clock water ok:=by
 obtain ⟨ao,cap,a1,a2,a3⟩:=h.c2
 exact ⟨h.top,(ht r h.top (by rw [h.tr])).trans h.tr,h.fr,h.c0,h.c1,⟨ao,cap,a1,a2,fun g hg=>(ht g (a2.lt g hg).2 (by rw [a3 g hg])).trans (a3 g hg)⟩,h.c3,h.c4,h.c5⟩
theorem Run.fin {w w':World} {tg tgE:Tags} {P:Nat→Prop} {m rr o od r s d:Nat} {L:List S.Fact} {clock wc water:Int} {T:S.Two} {X:S.Sto} {bs:List (List Rec)} {C:S.Con} {ids ps ids' ps':List Nat} (hl:Low m tg w) (hT:Tab w) (hG:(tg 1).1≠o∧(tg 1).1≠od∧(tg 1).1≠rr) (hm:o<m∧od<m∧rr<m) (hne:o≠od∧rr≠o∧rr≠od)
  (hK:Kept P tg w tgE w') (hP:∀ x,P x→x=o∨x=od∨x=rr) (hR:RunAt w' tgE rr r d s L clock wc true) (hS:StoAt w' tgE o s d X ids ps) (hD:LDiskAt w' tgE od d T.dsk ids' ps') (hF:T.dsk.Fine) (hO:S.RunOk L clock water T X bs C) :
  ∃ tg',Run w' tg' m rr o od r s d L clock wc water T X bs C∧Kept P tg w tg' w':=by
 have hGl:=tab_lt hT
 have hold:∀ k,k<w.heap.size→fin3 w.heap.size tg tgE o od rr (tg 1).1 k=tg k:=fun k hk=>fin3_old hk
 have hGP:¬P (tg 1).1:=fun e=>by rcases hP _ e with e | e | e<;>simp_all
 have hfew:=hO.few
 refine ⟨fin3 w.heap.size tg tgE o od rr (tg 1).1,⟨hR.retag (fun k _ e=>fin3_same hK.tags (Or.inr (Or.inr e))),⟨ids,ps,ids',ps',⟨hS.retag (fun k _ e=>fin3_same hK.tags (Or.inl e)),hD.retag (fun k _ e=>fin3_same hK.tags (Or.inr (Or.inl e))),hF,hO.on,hO.good,tab_block hT (hK.block _ hGl hGP),by rw [hold _ hGl];exact ⟨hG.1,hG.2.1⟩,hne.1,hO.b,hO.alive,fin3_low hl hm.1 hm.2.1 hm.2.2 (hl _ hGl),hm.1,hm.2.1,by omega⟩⟩,hO,hne.2.1,hne.2.2,by rw [hold _ hGl];exact hG.2.2,hm.2.2⟩,⟨hK.os,hK.tape,hK.output,hK.size,fun k hk=>hold k hk,hK.block⟩⟩
theorem RunAt.cells {w W w':World} {tg:Tags} {rr r d s:Nat} {L:List S.Fact} {clock water:Int} {ok:Bool} (h:RunAt w tg rr r d s L clock water ok) (q:Q w W) {v:Value} (hv:∀ g,v.ownBlock=some g→tg g=(rr,1)) (hg:W.grownBy w' v.ownBlock):∀ j,w'.cell? ⟨r,j,none⟩=w.cell? ⟨r,j,none⟩∧w'.frozen? ⟨r,j,none⟩=false:=fun j=>by
 have hB:w'.heap[r]?=w.heap[r]?:=by
  rw [hg.block r (Nat.lt_of_lt_of_le h.top q.below.size) (fun e=>by have:=hv r e.symm;rw [h.tr] at this;simp at this)]
  exact q.below.block r h.top
 exact ⟨World.cell?_of_block (a:=⟨r,j,none⟩) hB,(World.frozen?_of_block (a:=⟨r,j,none⟩) hB).trans (h.fr j)⟩
theorem RunAt.pushed {w W w':World} {tg:Tags} {rr r d s:Nat} {L:List S.Fact} {clock water:Int} {ok:Bool} (h:RunAt w tg rr r d s L clock water ok) (q:Q w W) {ao ao':Option Addr} {cap cap':Nat} {f:S.Fact} (ha:w.ownsRow 0 26 4 (.slice ao L.length cap) L.length (factCells L)) (hv:∀ g,(Value.slice ao L.length cap).ownBlock=some g→tg g=(rr,1)) (hg:W.grownBy w' (Value.slice ao L.length cap).ownBlock)
  (ho:w'.ownsRow 0 26 4 (.slice ao' (L.length+1) cap') (L.length+1) (factCells L++f.cells)) (hw:(Value.slice ao' (L.length+1) cap').ownBlock=(Value.slice ao L.length cap).ownBlock∨(Value.slice ao' (L.length+1) cap').ownBlock=some W.heap.size) :
  ∃ tg',(∀ k,k<w.heap.size→tg' k=tg k)∧RunAt ((w'.setCell ⟨r,2,none⟩ (.slice ao' (L.length+1) cap')).setCell ⟨r,3,none⟩ (.int .i64 f.stamp)) tg' rr r d s (L++[f]) f.stamp water ok∧Only rr tg w ((w'.setCell ⟨r,2,none⟩ (.slice ao' (L.length+1) cap')).setCell ⟨r,3,none⟩ (.int .i64 f.stamp)):=by
 have hc:=h.cells q hv hg
 have hsW:=q.below.size
 have hsg:=hg.size
 have htop:=h.top
 have hrowB:∀ g,(Value.slice ao' (L.length+1) cap').ownBlock=some g→g≠r:=fun g hgb e=>by
  rcases hw with e2|e2
  ·rw [e2] at hgb
   have:=hv g hgb
   rw [e,h.tr] at this
   simp at this
  ·rw [e2] at hgb
   injection hgb with hgb
   omega
 have hset:∀ k,k≠r→((w'.setCell ⟨r,2,none⟩ (.slice ao' (L.length+1) cap')).setCell ⟨r,3,none⟩ (.int .i64 f.stamp)).heap[k]?=w'.heap[k]?:=fun k hn=>by
  rw [heap_setCell_other _ ⟨r,3,none⟩ k _ (by simpa using hn),heap_setCell_other _ ⟨r,2,none⟩ k _ (by simpa using hn)]
 have hne:∀ i j,i≠j→(⟨r,i,none⟩:Addr)≠⟨r,j,none⟩:=fun i j hij e=>by injection e with _ e2;exact hij e2
 have hcj:∀ j,j≠2→j≠3→((w'.setCell ⟨r,2,none⟩ (.slice ao' (L.length+1) cap')).setCell ⟨r,3,none⟩ (.int .i64 f.stamp)).cell? ⟨r,j,none⟩=w.cell? ⟨r,j,none⟩:=fun j h1 h2=>by
  rw [World.cell?_setCell_other _ _ _ _ (hne _ _ (by omega)),World.cell?_setCell_other _ _ _ _ (hne _ _ (by omega))]
  exact (hc j).1
 have hlen:(L++[f]).length=L.length+1:=by simp
 refine ⟨tg.more w.heap.size rr 1,fun k hk=>Tags.more_old hk,⟨?_,?_,?_,?_,?_,⟨ao',cap',?_,?_,?_⟩,?_,?_,?_⟩,?_⟩
 ·simp;omega
 ·rw [Tags.more_old htop];exact h.tr
 ·intro j
  rw [World.frozen?_setCell,World.frozen?_setCell]
  exact (hc j).2
 ·rw [hcj 0 (by omega) (by omega)];exact h.c0
 ·rw [hcj 1 (by omega) (by omega)];exact h.c1
 ·obtain ⟨ao0,cap0,x1,_,_⟩:=h.c2
  rw [hlen,World.cell?_setCell_other _ _ _ _ (hne _ _ (by omega))]
  exact World.cell?_setCell_same _ _ _ ((hc 2).1.trans x1)
 ·rw [hlen,factCells_snoc]
  exact row_keep ho (fun g hgb=>hset g (hrowB g hgb))
 ·intro g hgb
  rw [hlen] at hgb
  rcases hw with e2|e2
  ·rw [e2] at hgb
   rw [Tags.more_old (ha.lt g hgb).2]
   exact hv g hgb
  ·rw [e2] at hgb
   injection hgb with hgb
   exact Tags.more_new (by omega)
 ·exact World.cell?_setCell_same _ _ _ ((World.cell?_setCell_other _ _ _ _ (hne _ _ (by omega))).trans ((hc 3).1.trans h.c3))
 ·rw [hcj 4 (by omega) (by omega)];exact h.c4
 ·rw [hcj 5 (by omega) (by omega)];exact h.c5
 ·refine ⟨hg.os.trans q.below.os,hg.tape.trans q.below.tape,hg.output.trans q.below.output,by simp;omega,fun k hk hn=>?_⟩
  rw [hset k (fun e=>hn (by rw [e,h.tr])),hg.block k (by omega) (fun e=>hn (by rw [hv k e.symm]))]
  exact q.below.block k hk
def Said (tg:Tags) (m rr o od r s d:Nat) (L:List S.Fact) (f:S.Fact) (wc water:Int) (T:S.Two) (bs:List (List Rec)) (C:S.Con) (w w':World):Prop:=
 ∃ tg' X',Run w' tg' m rr o od r s d (L++[f]) f.stamp wc water T X' bs C∧Kept (fun x=>x=rr∨x=o) tg w tg' w'
theorem say_put {w:World} {tg:Tags} {m rr o od r s d:Nat} {L:List S.Fact} {clock wc water:Int} {T:S.Two} {X:S.Sto} {bs:List (List Rec)} {C:S.Con} (h:Run w tg m rr o od r s d L clock wc water T X bs C) (key:ByteArray) (stamp:Int) (value:ByteArray) (h1:∀ g∈L,g.stamp<stamp) (hw1:water<stamp) (h0:0≤stamp) (ht:stamp≤1099511627776) (h2:1≤key.size∧key.size≤64) (h3:value.size≤4096) (hr:36+2*S.costF (L++[⟨key,stamp,value,true⟩])≤1048576) :
  Calls Tryz.prog 9 #[.pointer (some ⟨r,0,none⟩),.agg #[.string key,.int .i64 stamp,.string value,.bool true]] w fun e w'=>e=.returned (.tuple #[])∧Said tg m rr o od r s d L ⟨key,stamp,value,true⟩ wc water T bs C w w':=by
 obtain ⟨i0,hi,hz0,hz1,hz2⟩:=info_parts infoF
 have q0:Q w (w.alloc (.cells #[.string key,.int .i64 stamp,.string value,.bool true] 26)):=(Q.refl w).alloc _ _
 have hB:=h.q q0
 have hvb:=varN_new w [.string key,.int .i64 stamp,.string value,.bool true] 26
 obtain ⟨a1,a2,a3,a4⟩:=h.ok.adding (f:=⟨key,stamp,value,true⟩) h1 hw1 h0 ht h2 h3 (fun e=>by cases e)
 have hokN:=h.ok.say (f:=⟨key,stamp,value,true⟩) h1 hw1 h0 ht h2 h3 (fun e=>by cases e) hr
 have hLf:L.length≤20164:=h.ok.few.1
 obtain ⟨ids,ps,ids',ps',hrd⟩:=hB.rdy
 obtain ⟨wB,hwB⟩:∃ wB,wB=w.alloc (.cells #[.string key,.int .i64 stamp,.string value,.bool true] 26):=⟨_,rfl⟩
 rw [←hwB] at hB hvb hrd q0
 have tB:junk tg w w.heap.size=((tg 1).1,0):=Tags.more_new (Nat.le_refl _)
 obtain ⟨tgB,htgB⟩:∃ tgB,tgB=junk tg w:=⟨_,rfl⟩
 rw [←htgB] at hB hrd tB
 have htB0:∀ k,k<w.heap.size→tgB k=tg k:=fun k hk=>by rw [htgB];exact Tags.more_old hk
 obtain ⟨_,_,_,_,hrw⟩:=h.rdy
 have HH:Hid (Run w tg m rr o od r s d L clock wc water T X bs C):=h
 have HB:Hid (Run wB tgB m rr o od r s d L clock wc water T X bs C):=hB
 have HN:Hid (S.RunOk (L++[⟨key,stamp,value,true⟩]) stamp water T (X.put ⟨key,stamp,0,value⟩) bs C):=hokN
 have r1:=hB.run.c1
 have HV:Hid (VarN wB w.heap.size [.string key,.int .i64 stamp,.string value,.bool true]):=hvb
 have b0:=hvb.cell 0 rfl
 have b1:=hvb.cell 1 rfl
 have b2:=hvb.cell 2 rfl
 have b3:=hvb.cell 3 rfl
 have HRD:Hid (Rdy wB tgB o od m s d T X bs C False X.fl ids ps ids' ps'):=hrd
 have hJo:(tg 1).1≠o:=hrw.tabo.1
 have hJr:(tg 1).1≠rr:=h.rG
 have hro:=h.ro
 have htop:=h.run.top
 have HTB:Hid (tgB w.heap.size=((tg 1).1,0)∧(∀ k,k<w.heap.size→tgB k=tg k)∧Q w wB):=⟨tB,htB0,q0⟩
 have PU:=fun (W:World) (q:Q wB W)=>put_any (hrd.sto.kept q) hrd.good.ok key stamp value HH.out.ok.pend (fun _=>a4)
 unfold Added at PU
 have a1':X.adding ⟨key,stamp,0,value⟩=0:=a1
 rw [a1'] at PU
 have PUH:Hid _:=PU
 clear PU hB hvb hrd hrw tB htgB htB0 a1 a1' a2 a3 a4 hokN h h1 hw1 h0 ht h2 h3 hr
 go_enter Tryz.func9,Tryz.ntmps9
 go_wp2_with fail
 rw [←hwB]
 clear hwB
 go_region_held3 (fun w'=>w'.cell? ⟨r,1,none⟩=some (.pointer (some ⟨s,0,none⟩))∧w'.cell? ⟨w.heap.size,0,none⟩=some (.string key)∧w'.cell? ⟨w.heap.size,1,none⟩=some (.int .i64 stamp)∧w'.cell? ⟨w.heap.size,2,none⟩=some (.string value))
  (first | exact ⟨r1,b0,b1,b2⟩ | exact hS4)
  (first | (go_at_call 11;refine (PUH.out _ ((Q.refl wB).drew)).mono ?_;rintro e w4 ⟨rfl,tg4,ids4,ps4,ht4,hSt4,ho4⟩;have qd:Q wB wB.drew:=(Q.refl wB).drew;have hbr:w4.heap[r]?=wB.heap[r]?:=(ho4.block r (Nat.lt_of_lt_of_le HB.out.run.top qd.below.size) (by rw [HB.out.run.tr];exact hro)).trans (qd.below.block r HB.out.run.top);have hbb:w4.heap[w.heap.size]?=wB.heap[w.heap.size]?:=(ho4.block w.heap.size (Nat.lt_of_lt_of_le HV.out.1 qd.below.size) (by rw [HTB.out.1];exact hJo)).trans (qd.below.block w.heap.size HV.out.1);have hS4:w4.cell? ⟨r,1,none⟩=some (.pointer (some ⟨s,0,none⟩))∧w4.cell? ⟨w.heap.size,0,none⟩=some (.string key)∧w4.cell? ⟨w.heap.size,1,none⟩=some (.int .i64 stamp)∧w4.cell? ⟨w.heap.size,2,none⟩=some (.string value):=⟨(World.cell?_of_block (a:=⟨r,1,none⟩) hbr).trans r1,(World.cell?_of_block (a:=⟨w.heap.size,0,none⟩) hbb).trans b0,(World.cell?_of_block (a:=⟨w.heap.size,1,none⟩) hbb).trans b1,(World.cell?_of_block (a:=⟨w.heap.size,2,none⟩) hbb).trans b2⟩))
 all_goals
  have hK4:Kept (·=o) tgB wB tg4 w4:=(Kept.of_q ((Q.refl wB).drew) (fun _ _=>rfl)).trans (Kept.of_only ho4 ht4 rfl)
  have hR4:=HB.out.run.keep hK4 hro
  have hD4:=HRD.out.disk.keep hK4.size hK4.tags (fun k hk e=>hK4.block k hk (by rw [e];exact fun e=>HRD.out.ne e.symm))
  have hV4:=HV.out.of_block hbb hK4.size
  have hSt:StoAt w4 tg4 o s d (X.put ⟨key,stamp,0,value⟩) ids4 ps4:=by simpa using hSt4
  have t4:tg4 w.heap.size=((tg 1).1,0):=(hK4.tags _ HV.out.1).trans HTB.out.1
  have hKw:Kept (fun x=>x=rr∨x=o) tg w tg4 w4:=(Kept.of_q HTB.out.2.2 HTB.out.2.1).trans (hK4.wider (fun x e=>Or.inr e))
  have c5:=hR4.c5
  have f5:=hR4.fr 5
  have HW4:Hid (RunAt w4 tg4 rr r d s L clock wc true∧LDiskAt w4 tg4 od d T.dsk ids' ps'∧VarN w4 w.heap.size [.string key,.int .i64 stamp,.string value,.bool true]∧StoAt w4 tg4 o s d (X.put ⟨key,stamp,0,value⟩) ids4 ps4∧tg4 w.heap.size=((tg 1).1,0)∧Kept (fun x=>x=rr∨x=o) tg w tg4 w4):=⟨hR4,hD4,hV4,hSt,t4,hKw⟩
  clear hK4 hR4 hD4 hV4 hSt t4 hKw hSt4 ht4 ho4 hS4 hbr hbb r1 b0 b1 b2 b3 PUH qd
  go_upto_region 6 with fail
  obtain ⟨hR4,hD4,hV4,hSt,t4,hKw⟩:=HW4.out
  obtain ⟨w5,hw5⟩:∃ w5,w5=w4.setCell ⟨r,5,none⟩ (.bool true):=⟨_,rfl⟩
  have hset:Kept (·=rr) tg4 w4 tg4 w5:=by rw [hw5];exact Kept.setAt (by rw [hR4.tr]) (.bool true)
  have hR5:RunAt w5 tg4 rr r d s L clock wc true:=by rw [hw5];exact hR4.set 5 (.bool true) (by omega) rfl rfl rfl rfl rfl
  have hV5:=hV4.of_block (hset.block _ hV4.1 (by rw [t4];exact hJr)) hset.size
  obtain ⟨ao,cap,x1,x2,x3⟩:=hR5.c2
  have hr5:r<w5.heap.size:=hR5.top
  have hb5:w.heap.size<w5.heap.size:=hV5.1
  have y0:=hV5.cell 0 rfl
  have y1:=hV5.cell 1 rfl
  have y2:=hV5.cell 2 rfl
  have y3:=hV5.cell 3 rfl
  have HW5:Hid (Kept (·=rr) tg4 w4 tg4 w5∧RunAt w5 tg4 rr r d s L clock wc true∧VarN w5 w.heap.size [.string key,.int .i64 stamp,.string value,.bool true]):=⟨hset,hR5,hV5⟩
  rw [←hw5]
  clear hw5 hset hR5 hV5 hR4 hD4 hV4 hSt t4 hKw c5 f5
  go_region_law (refine step_append_w rfl (.tmp 42) (.tmp 44) 31 rfl 0 26 i0 (.agg #[.string ⟨#[]⟩,.int .i64 0,.string ⟨#[]⟩,.bool false]) 4 48 Tryz.underlying31 hi hz0 hz1 hz2 rfl (by decide) (.slice ao L.length cap) L.length (factCells L) (by simp [Act.eval]) (by exact (x2.drew).alloc _) ⟨w5.heap.size,0,none⟩ 1 1 (S.Fact.cells ⟨key,stamp,value,true⟩) (by simp [Act.eval]) rfl (by exact fact_cells_to _ ⟨key,stamp,value,true⟩ _ _ (by simp)) (fact_one _) (by decide) (by unfold maxLen;omega) (by omega) (by simp) ?_;intro v' w' hown' hgrow hwh;obtain ⟨ao3,cap3,hv3⟩:=own_form hown';subst hv3;have qq:Q w5 (w5.drew.alloc (.cells #[.string key,.int .i64 stamp,.string value,.bool true] 26)):=((Q.refl w5).drew).alloc _ _;have kc:=HW5.out.2.1.cells qq x3 hgrow;have kc2:=(kc 2).1.trans x1;have kf2:=(kc 2).2;have kc3:=(kc 3).1.trans HW5.out.2.1.c3;have kf3:=(kc 3).2)
  all_goals
   have hrow:(Value.slice ao L.length cap).ownBlock≠some w.heap.size:=fun e=>by
    have h1:=x3 _ e
    have h2:=HW4.out.2.2.2.2.1
    rw [h2] at h1
    injection h1 with h1
    exact hJr h1
   have hbx:w'.heap[w.heap.size]?=w5.heap[w.heap.size]?:=by
    rw [hgrow.block w.heap.size (Nat.lt_of_lt_of_le HW5.out.2.2.1 qq.below.size) (fun e=>hrow e.symm)]
    exact qq.below.block w.heap.size HW5.out.2.2.1
   have z1:(w'.setCell ⟨r,2,none⟩ (.slice ao3 (L.length+1) cap3)).cell? ⟨w.heap.size,1,none⟩=some (.int .i64 stamp):=(World.cell?_setCell_other _ _ _ _ (by intro e;injection e with e1;omega)).trans ((World.cell?_of_block (a:=⟨w.heap.size,1,none⟩) hbx).trans y1)
   have z3:(w'.setCell ⟨r,2,none⟩ (.slice ao3 (L.length+1) cap3)).cell? ⟨r,3,none⟩=some (.int .i64 clock):=(World.cell?_setCell_other _ _ _ _ (by intro e;injection e with _ e2;omega)).trans kc3
   have g3:(w'.setCell ⟨r,2,none⟩ (.slice ao3 (L.length+1) cap3)).frozen? ⟨r,3,none⟩=false:=by rw [World.frozen?_setCell];exact kf3
   have HP:Hid _:=HW5.out.2.1.pushed (f:=⟨key,stamp,value,true⟩) qq x2 x3 hgrow hown' hwh
   clear hown' hgrow hwh qq kc kc3 kf3 hrow hbx y0 y1 y2 y3 x1 x2 x3
   go_wp2_with fail
   go_end0
   refine ⟨rfl,?_⟩
   obtain ⟨tg6,ht6,hR6,ho6⟩:=HP.out
   obtain ⟨hR4,hD4,hV4,hSt,t4,hKw⟩:=HW4.out
   obtain ⟨hset,hR5,hV5⟩:=HW5.out
   obtain ⟨_,_,_,_,hrw⟩:=HH.out.rdy
   have hK5:Kept (·=rr) tg4 w4 tg6 ((w'.setCell ⟨r,2,none⟩ (.slice ao3 (L.length+1) cap3)).setCell ⟨r,3,none⟩ (.int .i64 stamp)):=hset.trans (Kept.of_only ho6 ht6 rfl)
   have hK6:=hK5
   obtain ⟨tg7,hrun,hk7⟩:=Run.fin (P:=fun x=>x=rr∨x=o) hrw.low hrw.tab ⟨hrw.tabo.1,hrw.tabo.2,HH.out.rG⟩ ⟨hrw.om,hrw.odm,HH.out.rm⟩ ⟨hrw.ne,HH.out.ro,HH.out.rod⟩ (hKw.trans (hK6.wider (fun x e=>Or.inl e))) (fun x e=>by rcases e with e | e<;>simp [e]) hR6 (hSt.keep hK6.size hK6.tags (fun k hk e=>hK6.block k hk (by rw [e];exact fun e=>hro e.symm))) (hD4.keep hK6.size hK6.tags (fun k hk e=>hK6.block k hk (by rw [e];exact fun e=>HH.out.rod e.symm))) HRD.out.fine HN.out
   exact ⟨tg7,_,hrun,hk7⟩
theorem say_del {w:World} {tg:Tags} {m rr o od r s d:Nat} {L:List S.Fact} {clock wc water:Int} {T:S.Two} {X:S.Sto} {bs:List (List Rec)} {C:S.Con} (h:Run w tg m rr o od r s d L clock wc water T X bs C) (key:ByteArray) (stamp:Int) (h1:∀ g∈L,g.stamp<stamp) (hw1:water<stamp) (h0:0≤stamp) (ht:stamp≤1099511627776) (h2:1≤key.size∧key.size≤64) (hr:36+2*S.costF (L++[⟨key,stamp,⟨#[]⟩,false⟩])≤1048576) :
  Calls Tryz.prog 9 #[.pointer (some ⟨r,0,none⟩),.agg #[.string key,.int .i64 stamp,.string ⟨#[]⟩,.bool false]] w fun e w'=>e=.returned (.tuple #[])∧Said tg m rr o od r s d L ⟨key,stamp,⟨#[]⟩,false⟩ wc water T bs C w w':=by
 obtain ⟨i0,hi,hz0,hz1,hz2⟩:=info_parts infoF
 have q0:Q w (w.alloc (.cells #[.string key,.int .i64 stamp,.string ⟨#[]⟩,.bool false] 26)):=(Q.refl w).alloc _ _
 have hB:=h.q q0
 have hvb:=varN_new w [.string key,.int .i64 stamp,.string ⟨#[]⟩,.bool false] 26
 obtain ⟨a1,a2,a3,a4⟩:=h.ok.adding (f:=⟨key,stamp,⟨#[]⟩,false⟩) h1 hw1 h0 ht h2 (Nat.zero_le _) (fun _=>rfl)
 have hokN:=h.ok.say (f:=⟨key,stamp,⟨#[]⟩,false⟩) h1 hw1 h0 ht h2 (Nat.zero_le _) (fun _=>rfl) hr
 have hLf:L.length≤20164:=h.ok.few.1
 obtain ⟨ids,ps,ids',ps',hrd⟩:=hB.rdy
 obtain ⟨wB,hwB⟩:∃ wB,wB=w.alloc (.cells #[.string key,.int .i64 stamp,.string ⟨#[]⟩,.bool false] 26):=⟨_,rfl⟩
 rw [←hwB] at hB hvb hrd q0
 have tB:junk tg w w.heap.size=((tg 1).1,0):=Tags.more_new (Nat.le_refl _)
 obtain ⟨tgB,htgB⟩:∃ tgB,tgB=junk tg w:=⟨_,rfl⟩
 rw [←htgB] at hB hrd tB
 have htB0:∀ k,k<w.heap.size→tgB k=tg k:=fun k hk=>by rw [htgB];exact Tags.more_old hk
 obtain ⟨_,_,_,_,hrw⟩:=h.rdy
 have HH:Hid (Run w tg m rr o od r s d L clock wc water T X bs C):=h
 have HB:Hid (Run wB tgB m rr o od r s d L clock wc water T X bs C):=hB
 have HN:Hid (S.RunOk (L++[⟨key,stamp,⟨#[]⟩,false⟩]) stamp water T (X.put ⟨key,stamp,2,⟨#[]⟩⟩) bs C):=hokN
 have r1:=hB.run.c1
 have HV:Hid (VarN wB w.heap.size [.string key,.int .i64 stamp,.string ⟨#[]⟩,.bool false]):=hvb
 have b0:=hvb.cell 0 rfl
 have b1:=hvb.cell 1 rfl
 have b2:=hvb.cell 2 rfl
 have b3:=hvb.cell 3 rfl
 have HRD:Hid (Rdy wB tgB o od m s d T X bs C False X.fl ids ps ids' ps'):=hrd
 have hJo:(tg 1).1≠o:=hrw.tabo.1
 have hJr:(tg 1).1≠rr:=h.rG
 have hro:=h.ro
 have htop:=h.run.top
 have HTB:Hid (tgB w.heap.size=((tg 1).1,0)∧(∀ k,k<w.heap.size→tgB k=tg k)∧Q w wB):=⟨tB,htB0,q0⟩
 have PU:=fun (W:World) (q:Q wB W)=>delete_any (hrd.sto.kept q) hrd.good.ok key stamp HH.out.ok.pend (fun _=>a4)
 unfold Added at PU
 have a1':X.adding ⟨key,stamp,2,⟨#[]⟩⟩=0:=a1
 rw [a1'] at PU
 have PUH:Hid _:=PU
 clear PU hB hvb hrd hrw tB htgB htB0 a1 a1' a2 a3 a4 hokN h h1 hw1 h0 ht h2 hr
 go_enter Tryz.func9,Tryz.ntmps9
 go_wp2_with fail
 rw [←hwB]
 clear hwB
 go_region_held3 (fun w'=>w'.cell? ⟨r,1,none⟩=some (.pointer (some ⟨s,0,none⟩))∧w'.cell? ⟨w.heap.size,0,none⟩=some (.string key)∧w'.cell? ⟨w.heap.size,1,none⟩=some (.int .i64 stamp)∧w'.cell? ⟨w.heap.size,2,none⟩=some (.string ⟨#[]⟩))
  (first | exact ⟨r1,b0,b1,b2⟩ | exact hS4)
  (first | (go_at_call 28;refine (PUH.out _ ((Q.refl wB).drew)).mono ?_;rintro e w4 ⟨rfl,tg4,ids4,ps4,ht4,hSt4,ho4⟩;have qd:Q wB wB.drew:=(Q.refl wB).drew;have hbr:w4.heap[r]?=wB.heap[r]?:=(ho4.block r (Nat.lt_of_lt_of_le HB.out.run.top qd.below.size) (by rw [HB.out.run.tr];exact hro)).trans (qd.below.block r HB.out.run.top);have hbb:w4.heap[w.heap.size]?=wB.heap[w.heap.size]?:=(ho4.block w.heap.size (Nat.lt_of_lt_of_le HV.out.1 qd.below.size) (by rw [HTB.out.1];exact hJo)).trans (qd.below.block w.heap.size HV.out.1);have hS4:w4.cell? ⟨r,1,none⟩=some (.pointer (some ⟨s,0,none⟩))∧w4.cell? ⟨w.heap.size,0,none⟩=some (.string key)∧w4.cell? ⟨w.heap.size,1,none⟩=some (.int .i64 stamp)∧w4.cell? ⟨w.heap.size,2,none⟩=some (.string ⟨#[]⟩):=⟨(World.cell?_of_block (a:=⟨r,1,none⟩) hbr).trans r1,(World.cell?_of_block (a:=⟨w.heap.size,0,none⟩) hbb).trans b0,(World.cell?_of_block (a:=⟨w.heap.size,1,none⟩) hbb).trans b1,(World.cell?_of_block (a:=⟨w.heap.size,2,none⟩) hbb).trans b2⟩))
 all_goals
  have hK4:Kept (·=o) tgB wB tg4 w4:=(Kept.of_q ((Q.refl wB).drew) (fun _ _=>rfl)).trans (Kept.of_only ho4 ht4 rfl)
  have hR4:=HB.out.run.keep hK4 hro
  have hD4:=HRD.out.disk.keep hK4.size hK4.tags (fun k hk e=>hK4.block k hk (by rw [e];exact fun e=>HRD.out.ne e.symm))
  have hV4:=HV.out.of_block hbb hK4.size
  have hSt:StoAt w4 tg4 o s d (X.put ⟨key,stamp,2,⟨#[]⟩⟩) ids4 ps4:=by simpa using hSt4
  have t4:tg4 w.heap.size=((tg 1).1,0):=(hK4.tags _ HV.out.1).trans HTB.out.1
  have hKw:Kept (fun x=>x=rr∨x=o) tg w tg4 w4:=(Kept.of_q HTB.out.2.2 HTB.out.2.1).trans (hK4.wider (fun x e=>Or.inr e))
  have c5:=hR4.c5
  have f5:=hR4.fr 5
  have HW4:Hid (RunAt w4 tg4 rr r d s L clock wc true∧LDiskAt w4 tg4 od d T.dsk ids' ps'∧VarN w4 w.heap.size [.string key,.int .i64 stamp,.string ⟨#[]⟩,.bool false]∧StoAt w4 tg4 o s d (X.put ⟨key,stamp,2,⟨#[]⟩⟩) ids4 ps4∧tg4 w.heap.size=((tg 1).1,0)∧Kept (fun x=>x=rr∨x=o) tg w tg4 w4):=⟨hR4,hD4,hV4,hSt,t4,hKw⟩
  clear hK4 hR4 hD4 hV4 hSt t4 hKw hSt4 ht4 ho4 hS4 hbr hbb r1 b0 b1 b2 b3 PUH qd
  go_upto_region 6 with fail
  obtain ⟨hR4,hD4,hV4,hSt,t4,hKw⟩:=HW4.out
  obtain ⟨w5,hw5⟩:∃ w5,w5=w4.setCell ⟨r,5,none⟩ (.bool true):=⟨_,rfl⟩
  have hset:Kept (·=rr) tg4 w4 tg4 w5:=by rw [hw5];exact Kept.setAt (by rw [hR4.tr]) (.bool true)
  have hR5:RunAt w5 tg4 rr r d s L clock wc true:=by rw [hw5];exact hR4.set 5 (.bool true) (by omega) rfl rfl rfl rfl rfl
  have hV5:=hV4.of_block (hset.block _ hV4.1 (by rw [t4];exact hJr)) hset.size
  obtain ⟨ao,cap,x1,x2,x3⟩:=hR5.c2
  have hr5:r<w5.heap.size:=hR5.top
  have hb5:w.heap.size<w5.heap.size:=hV5.1
  have y0:=hV5.cell 0 rfl
  have y1:=hV5.cell 1 rfl
  have y2:=hV5.cell 2 rfl
  have y3:=hV5.cell 3 rfl
  have HW5:Hid (Kept (·=rr) tg4 w4 tg4 w5∧RunAt w5 tg4 rr r d s L clock wc true∧VarN w5 w.heap.size [.string key,.int .i64 stamp,.string ⟨#[]⟩,.bool false]):=⟨hset,hR5,hV5⟩
  rw [←hw5]
  clear hw5 hset hR5 hV5 hR4 hD4 hV4 hSt t4 hKw c5 f5
  go_region_law (refine step_append_w rfl (.tmp 42) (.tmp 44) 31 rfl 0 26 i0 (.agg #[.string ⟨#[]⟩,.int .i64 0,.string ⟨#[]⟩,.bool false]) 4 48 Tryz.underlying31 hi hz0 hz1 hz2 rfl (by decide) (.slice ao L.length cap) L.length (factCells L) (by simp [Act.eval]) (by exact (x2.drew).alloc _) ⟨w5.heap.size,0,none⟩ 1 1 (S.Fact.cells ⟨key,stamp,⟨#[]⟩,false⟩) (by simp [Act.eval]) rfl (by exact fact_cells_to _ ⟨key,stamp,⟨#[]⟩,false⟩ _ _ (by simp)) (fact_one _) (by decide) (by unfold maxLen;omega) (by omega) (by simp) ?_;intro v' w' hown' hgrow hwh;obtain ⟨ao3,cap3,hv3⟩:=own_form hown';subst hv3;have qq:Q w5 (w5.drew.alloc (.cells #[.string key,.int .i64 stamp,.string ⟨#[]⟩,.bool false] 26)):=((Q.refl w5).drew).alloc _ _;have kc:=HW5.out.2.1.cells qq x3 hgrow;have kc2:=(kc 2).1.trans x1;have kf2:=(kc 2).2;have kc3:=(kc 3).1.trans HW5.out.2.1.c3;have kf3:=(kc 3).2)
  all_goals
   have hrow:(Value.slice ao L.length cap).ownBlock≠some w.heap.size:=fun e=>by
    have h1:=x3 _ e
    have h2:=HW4.out.2.2.2.2.1
    rw [h2] at h1
    injection h1 with h1
    exact hJr h1
   have hbx:w'.heap[w.heap.size]?=w5.heap[w.heap.size]?:=by
    rw [hgrow.block w.heap.size (Nat.lt_of_lt_of_le HW5.out.2.2.1 qq.below.size) (fun e=>hrow e.symm)]
    exact qq.below.block w.heap.size HW5.out.2.2.1
   have z1:(w'.setCell ⟨r,2,none⟩ (.slice ao3 (L.length+1) cap3)).cell? ⟨w.heap.size,1,none⟩=some (.int .i64 stamp):=(World.cell?_setCell_other _ _ _ _ (by intro e;injection e with e1;omega)).trans ((World.cell?_of_block (a:=⟨w.heap.size,1,none⟩) hbx).trans y1)
   have z3:(w'.setCell ⟨r,2,none⟩ (.slice ao3 (L.length+1) cap3)).cell? ⟨r,3,none⟩=some (.int .i64 clock):=(World.cell?_setCell_other _ _ _ _ (by intro e;injection e with _ e2;omega)).trans kc3
   have g3:(w'.setCell ⟨r,2,none⟩ (.slice ao3 (L.length+1) cap3)).frozen? ⟨r,3,none⟩=false:=by rw [World.frozen?_setCell];exact kf3
   have HP:Hid _:=HW5.out.2.1.pushed (f:=⟨key,stamp,⟨#[]⟩,false⟩) qq x2 x3 hgrow hown' hwh
   clear hown' hgrow hwh qq kc kc3 kf3 hrow hbx y0 y1 y2 y3 x1 x2 x3
   go_wp2_with fail
   go_end0
   refine ⟨rfl,?_⟩
   obtain ⟨tg6,ht6,hR6,ho6⟩:=HP.out
   obtain ⟨hR4,hD4,hV4,hSt,t4,hKw⟩:=HW4.out
   obtain ⟨hset,hR5,hV5⟩:=HW5.out
   obtain ⟨_,_,_,_,hrw⟩:=HH.out.rdy
   have hK5:Kept (·=rr) tg4 w4 tg6 ((w'.setCell ⟨r,2,none⟩ (.slice ao3 (L.length+1) cap3)).setCell ⟨r,3,none⟩ (.int .i64 stamp)):=hset.trans (Kept.of_only ho6 ht6 rfl)
   have hK6:=hK5
   obtain ⟨tg7,hrun,hk7⟩:=Run.fin (P:=fun x=>x=rr∨x=o) hrw.low hrw.tab ⟨hrw.tabo.1,hrw.tabo.2,HH.out.rG⟩ ⟨hrw.om,hrw.odm,HH.out.rm⟩ ⟨hrw.ne,HH.out.ro,HH.out.rod⟩ (hKw.trans (hK6.wider (fun x e=>Or.inl e))) (fun x e=>by rcases e with e | e<;>simp [e]) hR6 (hSt.keep hK6.size hK6.tags (fun k hk e=>hK6.block k hk (by rw [e];exact fun e=>hro e.symm))) (hD4.keep hK6.size hK6.tags (fun k hk e=>hK6.block k hk (by rw [e];exact fun e=>HH.out.rod e.symm))) HRD.out.fine HN.out
   exact ⟨tg7,_,hrun,hk7⟩
def Done (tg:Tags) (o od s d:Nat) (L:List S.Fact) (clock water:Int) (w w':World):Prop:=
 ∃ (tg':Tags) (T':S.Two) (X':S.Sto) (bs':List (List Rec)) (C':S.Con) (ids ps ids' ps':List Nat),StoAt w' tg' o s d X' ids ps∧LDiskAt w' tg' od d T'.dsk ids' ps'∧T'.dsk.Fine∧S.RunOk L clock water T' X' bs' C'∧X'.isPending=false∧Kept (fun x=>x=o∨x=od) tg w tg' w'
theorem layC_mem {X:S.Sto} {bs:List (List Rec)} {C:S.Con} {L:List S.Fact} (hg:X.Good bs C) (hk:S.Keeps X C L) (kv:List S.Vs→Nat):∀ k v,v∈S.layC X C kv X.keys.length k→v∈S.fv L k:=fun k v hv=>by
 rw [S.layC_all hg] at hv
 exact hk.mem (List.mem_of_mem_take hv)
theorem flush_run {w:World} {tg:Tags} {m o od s d:Nat} {L:List S.Fact} {clock water:Int} {T:S.Two} {X:S.Sto} {bs:List (List Rec)} {C:S.Con} {ids ps ids' ps':List Nat} (h:Rdy w tg o od m s d T X bs C False X.fl ids ps ids' ps') (ho:S.RunOk L clock water T X bs C) :
  Calls Tryz.prog 31 #[.pointer (some ⟨s,0,none⟩)] w fun e w'=>e=.returned (.int .i64 0)∧Done tg o od s d L clock water w w':=by
 cases hp:X.isPending with
 | false =>
  refine (flush_idle h.sto ho.dead hp).mono ?_
  rintro e w' ⟨rfl,q⟩
  exact ⟨rfl,tg,T,X,bs,C,ids,ps,ids',ps',h.sto.kept q,h.disk.kept q,h.fine,ho,hp,Kept.of_q q (fun _ _=>rfl)⟩
 | true =>
  refine (flush_do h ho.dead hp).mono ?_
  rintro e w' ⟨c,tg',X',T',i1,i2,i3,i4,rfl,hK,_,hS,hD,hF,hc⟩
  rcases hc with ⟨rfl,hg⟩|hb
  ·obtain ⟨bs',hr,hp'⟩:=ho.laid hg (fun nw=>ho.keeps.flush ho.good nw)
   exact ⟨rfl,tg',T',X',bs',_,i1,i2,i3,i4,hS,hD,hF,hr,hp',hK⟩
  ·exact absurd hb (ho.notBad (layC_mem ho.good ho.keeps _))
theorem compact_run {w:World} {tg:Tags} {m o od s d:Nat} {L:List S.Fact} {clock water:Int} {T:S.Two} {X:S.Sto} {bs:List (List Rec)} {C:S.Con} {ids ps ids' ps':List Nat} (h:Rdy w tg o od m s d T X bs C False X.fl ids ps ids' ps') (ho:S.RunOk L clock water T X bs C) (hp:X.isPending=false) :
  Calls Tryz.prog 15 #[.pointer (some ⟨s,0,none⟩)] w fun e w'=>e=.returned (.int .i64 0)∧Done tg o od s d L clock water w w':=by
 refine (compact_do h ho.dead hp).mono ?_
 rintro e w' (⟨_,rfl,q⟩|⟨hf,_⟩|⟨_,c,tg',X',T',i1,i2,i3,i4,rfl,hK,_,hS,hD,hF,hc⟩)
 ·exact ⟨rfl,tg,T,X,bs,C,ids,ps,ids',ps',h.sto.kept q,h.disk.kept q,h.fine,ho,hp,Kept.of_q q (fun _ _=>rfl)⟩
 ·exact hf.elim
 ·rcases hc with ⟨rfl,hg⟩|hb
  ·obtain ⟨bs',hr,hp'⟩:=ho.laid hg (fun nw=>ho.keeps.compact ho.good nw)
   exact ⟨rfl,tg',T',X',bs',_,i1,i2,i3,i4,hS,hD,hF,hr,hp',hK⟩
  ·exact absurd hb (ho.notBad (layC_mem ho.good ho.keeps _))
def Flushed (tg:Tags) (m rr o od r s d:Nat) (L:List S.Fact) (clock wc water:Int) (w w':World):Prop:=
 ∃ tg' T' X' bs' C',Run w' tg' m rr o od r s d L clock wc water T' X' bs' C'∧X'.isPending=false∧Kept (fun x=>x=rr∨x=o∨x=od) tg w tg' w'
theorem Run.done {w w':World} {tg:Tags} {m rr o od r s d:Nat} {L:List S.Fact} {clock wc water:Int} {T:S.Two} {X:S.Sto} {bs:List (List Rec)} {C:S.Con} (h:Run w tg m rr o od r s d L clock wc water T X bs C) (hd:Done tg o od s d L clock water w w'):Flushed tg m rr o od r s d L clock wc water w w':=by
 obtain ⟨tg',T',X',bs',C',i1,i2,i3,i4,hS,hD,hF,hO,hp,hK⟩:=hd
 obtain ⟨_,_,_,_,hr⟩:=h.rdy
 have hR:RunAt w' tg' rr r d s L clock wc true:=h.run.keep hK (fun e=>by rcases e with e | e;exact h.ro e;exact h.rod e)
 obtain ⟨tg2,h1,h2⟩:=Run.fin (P:=fun x=>x=o∨x=od) hr.low hr.tab ⟨hr.tabo.1,hr.tabo.2,h.rG⟩ ⟨hr.om,hr.odm,h.rm⟩ ⟨hr.ne,h.ro,h.rod⟩ hK (fun x e=>by rcases e with e | e<;>simp [e]) hR hS hD hF hO
 exact ⟨tg2,T',X',bs',C',h1,hp,h2.wider (fun x e=>Or.inr e)⟩
theorem rflush_any {w:World} {tg:Tags} {m rr o od r s d:Nat} {L:List S.Fact} {clock wc water:Int} {T:S.Two} {X:S.Sto} {bs:List (List Rec)} {C:S.Con} (h:Run w tg m rr o od r s d L clock wc water T X bs C) :
  Calls Tryz.prog 13 #[.pointer (some ⟨r,0,none⟩)] w fun e w'=>e=.returned (.tuple #[])∧Flushed tg m rr o od r s d L clock wc water w w':=by
 obtain ⟨i1,i2,i3,i4,hr⟩:=h.rdy
 have r1:=h.run.c1
 have FL:Hid _:=fun (_:Unit)=>flush_run hr h.ok
 have HH:Hid (Run w tg m rr o od r s d L clock wc water T X bs C):=h
 clear h hr
 go_enter Tryz.func13,Tryz.ntmps13
 go_wp2_with fail
 refine (FL.out ()).mono ?_
 rintro e w1 ⟨rfl,hd⟩
 obtain ⟨tg1,T1,X1,bs1,C1,hR1,hp1,hK1⟩:=HH.out.done hd
 have c5:=hR1.run.c5
 have f5:=hR1.run.fr 5
 have HR1:Hid (Run w1 tg1 m rr o od r s d L clock wc water T1 X1 bs1 C1∧X1.isPending=false∧Kept (fun x=>x=rr∨x=o∨x=od) tg w tg1 w1):=⟨hR1,hp1,hK1⟩
 clear FL hd hR1 hp1 hK1 HH
 go_wp2_with fail
 go_end0
 refine ⟨rfl,?_⟩
 obtain ⟨hR1,hp1,hK1⟩:=HR1.out
 obtain ⟨j1,j2,j3,j4,hr1⟩:=hR1.rdy
 have hset:=Kept.setAt (w:=w1) (tg:=tg1) (R:=r) (r:=rr) (j:=5) (by rw [hR1.run.tr]) (.bool true)
 have hrun:=hR1.run.set 5 (.bool true) (d':=d) (s':=s) (clock':=clock) (water':=wc) (ok':=true) (by omega) rfl rfl rfl rfl rfl
 obtain ⟨tg2,g1,g2⟩:=Run.fin (P:=fun x=>x=rr) hr1.low hr1.tab ⟨hr1.tabo.1,hr1.tabo.2,hR1.rG⟩ ⟨hr1.om,hr1.odm,hR1.rm⟩ ⟨hr1.ne,hR1.ro,hR1.rod⟩ hset (fun x e=>Or.inr (Or.inr e)) hrun (hr1.sto.keep hset.size hset.tags (fun k hk e=>hset.block k hk (by rw [e];exact fun e=>hR1.ro e.symm))) (hr1.disk.keep hset.size hset.tags (fun k hk e=>hset.block k hk (by rw [e];exact fun e=>hR1.rod e.symm))) hr1.fine hR1.ok
 exact ⟨tg2,T1,X1,bs1,C1,g1,hp1,hK1.trans (g2.wider (fun x e=>Or.inl e))⟩
end Go.Proofs.YtekdenkllipehabGreatDoor
