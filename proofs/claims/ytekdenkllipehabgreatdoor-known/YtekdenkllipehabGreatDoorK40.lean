import Derived.Test.YtekdenkllipehabGreatDoorK20
import Derived.Test.YtekdenkllipehabGreatDoorK39
import Derived.Lib.AppendStr
set_option maxRecDepth 100000
set_option maxHeartbeats 8000000
namespace Go.Proofs.YtekdenkllipehabGreatDoor
open Go.RowKit
def ReadSaid (w:World) (D:M.Dsk) (e:Ending) (w':World):Prop:=
 match D.read laidN with
 | (_,7)=>e=.returned (.tuple #[layVal (-1) ⟨#[]⟩ none 0 0,.int .i64 0])
 | (T,0)=>LaySaid w (S.readFile T) e w'
 | (_,c)=>e=.returned (.tuple #[noLay,.int .i64 (c:Nat)])
theorem read_code (D:M.Dsk) (nm:ByteArray):(D.read nm).2=0∨(D.read nm).2=7∨(D.read nm).2=10:=by
 unfold M.Dsk.read
 split
 ·exact Or.inr (Or.inr rfl)
 ·split
  ·exact Or.inr (Or.inl rfl)
  ·exact Or.inl rfl
theorem read_small {D:M.Dsk} (hD:D.Fine) (nm:ByteArray):(D.read nm).1.length≤1048576:=by
 unfold M.Dsk.read
 split
 ·simp
 ·split
  ·simp
  ·rename_i i hi
   obtain ⟨f,hf,_,_⟩:=M.place_some hi
   simp only [hf,Option.map_some,Option.getD_some]
   exact hD.good.small (List.mem_of_getElem? hf)
theorem cutEnd_len {T A t:List UInt8} {n:Int} (h:S.cutEnd T n=some (A,t)):A.length≤T.length∧t.length≤T.length:=by
 unfold S.cutEnd at h
 split at h
 ·cases h
 ·split at h
  ·injection h with h
   injection h with h1 h2
   subst h1 h2
   exact ⟨by simp,by simp;omega⟩
  ·cases h
theorem storeRead_none (w:World) (d:Nat) (x:ByteArray) (hR:∀ W,Q w W→Calls Tryz.prog 42 #[.pointer (some ⟨d,0,none⟩),.string laidN] W fun e w'=>e=.returned (.tuple #[.string x,.int .i64 7])∧Q W w') :
  Calls Tryz.prog 62 #[.pointer (some ⟨d,0,none⟩)] w fun e w'=>e=.returned (.tuple #[layVal (-1) ⟨#[]⟩ none 0 0,.int .i64 0])∧Q w w':=by
 have HR:Hid _:=hR
 clear hR
 unfold laidN at HR
 unfold layVal
 go_enter Tryz.func62,Tryz.ntmps62
 go_wp2_with fail
 refine (HR.out _ ((Q.refl w).alloc _ _)).mono ?_
 rintro e w1 ⟨rfl,q1⟩
 have hV:=(varN_new w [.int .i64 0,.string ⟨#[]⟩,.slice none 0 0] 124).kept q1
 have b0:=hV.cell 0 rfl
 have b1:=hV.cell 1 rfl
 have b2:=hV.cell 2 rfl
 have d0:=hV.free 0 rfl
 have d1:=hV.free 1 rfl
 have d2:=hV.free 2 rfl
 have hset:=((hV.set 0 (.int .i64 (-1))).set 1 (.string ⟨#[]⟩)).set 2 (.slice none 0 0)
 have k0:=hset.cell 0 rfl
 have k1:=hset.cell 1 rfl
 have k2:=hset.cell 2 rfl
 have hq:Q w (((w1.setCell ⟨w.heap.size,0,none⟩ (.int .i64 (-1))).setCell ⟨w.heap.size,1,none⟩ (.string ⟨#[]⟩)).setCell ⟨w.heap.size,2,none⟩ (.slice none 0 0)):=(((((Q.refl w).alloc _ _).trans q1).setCell (Nat.le_refl _) _).setCell (Nat.le_refl _) _).setCell (Nat.le_refl _) _
 clear hset hV q1
 go_wp2_with fail
 refine bodyPost_ret (v:=.tuple #[.agg #[.int .i64 (-1),.string ⟨#[]⟩,.slice none 0 0],.int .i64 0]) (by simp [results,Tryz.results62,go_sem,k0,k1,k2]) rfl ?_
 exact ⟨rfl,hq⟩
theorem storeRead_dead (w:World) (d:Nat) (x:ByteArray) (hR:∀ W,Q w W→Calls Tryz.prog 42 #[.pointer (some ⟨d,0,none⟩),.string laidN] W fun e w'=>e=.returned (.tuple #[.string x,.int .i64 10])∧Q W w') :
  Calls Tryz.prog 62 #[.pointer (some ⟨d,0,none⟩)] w fun e w'=>e=.returned (.tuple #[noLay,.int .i64 10])∧Q w w':=by
 have HR:Hid _:=hR
 clear hR
 unfold laidN at HR
 unfold noLay
 go_enter Tryz.func62,Tryz.ntmps62
 go_wp2_with fail
 refine (HR.out _ ((Q.refl w).alloc _ _)).mono ?_
 rintro e w1 ⟨rfl,q1⟩
 have hV:=(varN_new w [.int .i64 0,.string ⟨#[]⟩,.slice none 0 0] 124).kept q1
 have b0:=hV.cell 0 rfl
 have b1:=hV.cell 1 rfl
 have b2:=hV.cell 2 rfl
 have d0:=hV.free 0 rfl
 have d1:=hV.free 1 rfl
 have d2:=hV.free 2 rfl
 have hset:=((hV.set 0 (.int .i64 0)).set 1 (.string ⟨#[]⟩)).set 2 (.slice none 0 0)
 have k0:=hset.cell 0 rfl
 have k1:=hset.cell 1 rfl
 have k2:=hset.cell 2 rfl
 have hq:Q w (((w1.setCell ⟨w.heap.size,0,none⟩ (.int .i64 0)).setCell ⟨w.heap.size,1,none⟩ (.string ⟨#[]⟩)).setCell ⟨w.heap.size,2,none⟩ (.slice none 0 0)):=(((((Q.refl w).alloc _ _).trans q1).setCell (Nat.le_refl _) _).setCell (Nat.le_refl _) _).setCell (Nat.le_refl _) _
 clear hset hV q1
 go_wp2_with fail
 refine bodyPost_ret (v:=.tuple #[.agg #[.int .i64 0,.string ⟨#[]⟩,.slice none 0 0],.int .i64 10]) (by simp [results,Tryz.results62,go_sem,k0,k1,k2]) rfl ?_
 exact ⟨rfl,hq⟩
theorem storeRead_some (w:World) (d:Nat) (x:ByteArray) (hx:x.size≤1048576) (hT:Tab w) (hR:∀ W,Q w W→Calls Tryz.prog 42 #[.pointer (some ⟨d,0,none⟩),.string laidN] W fun e w'=>e=.returned (.tuple #[.string x,.int .i64 0])∧Q W w') :
  Calls Tryz.prog 62 #[.pointer (some ⟨d,0,none⟩)] w fun e w'=>LaySaid w (S.readFile x.data.toList) e w'∧Q w w':=by
 have hl:x.data.toList.length=x.size:=by simp
 have HT:Hid (∀ W,Q w W→Tab W):=fun W q=>tab_kept hT q
 have HR:Hid _:=hR
 have C1:Hid _:=fun W (q:Q w W)=>cut_any x hx 8 W (HT.out W q)
 clear hR
 unfold laidN at HR
 have HE:Hid (∀ v e w',(S.readFile x.data.toList=none)→e=.returned (.tuple #[.agg #[.int .i64 0,.string ⟨#[]⟩,.slice none 0 0],.int .i64 v])→v=3→LaySaid w (S.readFile x.data.toList) e w'):=fun v e w' h1 h2 h3=>by
  rw [h1,h2,h3]
  exact rfl
 cases hc:S.cutEnd x.data.toList 8 with
 | none =>
  have hE:S.readFile x.data.toList=none:=by unfold S.readFile;rw [hc]
  rw [hc] at C1
  have hE2:=HE.out 3 _ w hE rfl rfl
  rw [hE]
  unfold cutRet at C1
  unfold LaySaid noLay
  clear hE2 HE hE hc HT
  go_enter Tryz.func62,Tryz.ntmps62
  go_wp2_with fail
  refine (HR.out _ ((Q.refl w).alloc _ _)).mono ?_
  rintro e w0 ⟨rfl,q0⟩
  have q0':=((Q.refl w).alloc _ _).trans q0
  go_wp2_with fail
  refine (C1.out _ q0').mono ?_
  rintro e w1 ⟨rfl,q1⟩
  have hV:=((varN_new w [.int .i64 0,.string ⟨#[]⟩,.slice none 0 0] 124).kept q0).kept q1
  have b0:=hV.cell 0 rfl
  have b1:=hV.cell 1 rfl
  have b2:=hV.cell 2 rfl
  have d0:=hV.free 0 rfl
  have d1:=hV.free 1 rfl
  have d2:=hV.free 2 rfl
  have hset:=((hV.set 0 (.int .i64 0)).set 1 (.string ⟨#[]⟩)).set 2 (.slice none 0 0)
  have k0:=hset.cell 0 rfl
  have k1:=hset.cell 1 rfl
  have k2:=hset.cell 2 rfl
  have hq:Q w (((w1.setCell ⟨w.heap.size,0,none⟩ (.int .i64 0)).setCell ⟨w.heap.size,1,none⟩ (.string ⟨#[]⟩)).setCell ⟨w.heap.size,2,none⟩ (.slice none 0 0)):=(((q0'.trans q1).setCell (Nat.le_refl _) _).setCell (Nat.le_refl _) _).setCell (Nat.le_refl _) _
  clear hset hV q1 q0 q0' C1 HR
  go_wp2_with fail
  refine bodyPost_ret (v:=.tuple #[.agg #[.int .i64 0,.string ⟨#[]⟩,.slice none 0 0],.int .i64 3]) (by simp [results,Tryz.results62,go_sem,k0,k1,k2]) rfl ?_
  exact ⟨rfl,hq⟩
 | some p =>
  obtain ⟨A,foot⟩:=p
  have hln:=cutEnd_len hc
  rw [hl] at hln
  rw [hc] at C1
  unfold cutRet at C1
  obtain ⟨Ab,hAb⟩:∃ Ab:ByteArray,Ab=⟨A.toArray⟩:=⟨_,rfl⟩
  obtain ⟨fo,hfo⟩:∃ fo:ByteArray,fo=⟨foot.toArray⟩:=⟨_,rfl⟩
  have hAd:Ab.data.toList=A:=by rw [hAb]
  have hfd:fo.data.toList=foot:=by rw [hfo]
  have hAs:Ab.size≤1048576:=by rw [hAb];show A.length≤_;omega
  have hfs:fo.size≤1048576:=by rw [hfo];show foot.length≤_;omega
  simp only [←hAb,←hfo] at C1
  have NU:Hid _:=fun (C:Nat) W=>rdNum fo (by omega) 0 C 72057594037927935 false W
  have HRd:Hid _:=fun W=>rdRead fo W
  have nle:=numTo_le (T:=foot) (most:=72057594037927935) (a:=0) (Nat.zero_le _)
  have hE:S.readFile x.data.toList=match S.cutEnd A (((numTo foot 72057594037927935 0).1:Int)-2097152) with | none=>none | some (blocks,idx)=>S.readIdx blocks idx:=by unfold S.readFile;rw [hc];rfl
  rw [hfd] at NU
  obtain ⟨⟨v,a1⟩,hv⟩:∃ p,p=numTo foot 72057594037927935 0:=⟨_,rfl⟩
  rw [←hv] at NU nle hE
  simp only at nle
  have C2:Hid _:=fun W (q:Q w W)=>cut_any Ab hAs ((v:Int)-2097152) W (HT.out W q)
  rw [hAd] at C2
  clear hv hc hAb hfo
  cases hc2:S.cutEnd A ((v:Int)-2097152) with
  | none =>
   rw [hc2] at hE C2
   simp only at hE
   rw [hE]
   unfold cutRet at C2
   unfold LaySaid noLay
   clear HE hE hc2 HT
   go_enter Tryz.func62,Tryz.ntmps62
   go_wp2_with fail
   refine (HR.out _ ((Q.refl w).alloc _ _)).mono ?_
   rintro e w0 ⟨rfl,q0⟩
   have hV0:=(varN_new w [.int .i64 0,.string ⟨#[]⟩,.slice none 0 0] 124).kept q0
   have q0':=((Q.refl w).alloc _ _).trans q0
   clear q0
   go_wp2_with fail
   refine (C1.out _ q0').mono ?_
   rintro e w1 ⟨rfl,q1⟩
   have hV1:=hV0.kept q1
   have q1':=q0'.trans q1
   clear q1 q0' hV0 C1 HR
   go_wp2_with fail
   refine (HRd.out _).mono ?_
   rintro e w2 ⟨rfl,hA2,q2⟩
   have hV2:=hV1.kept q2
   have hs1:=hV1.1
   go_wp2_with fail
   refine (NU.out _ _ hA2).mono ?_
   rintro e w3 ⟨rfl,hA3,g3⟩
   have hV3:=hV2.grown g3 (by simp;omega)
   have q3':Q w w3:=⟨(q1'.below.trans (q2.below.mono q1'.below.size)).grown g3 (Nat.le_trans q1'.below.size q2.below.size) (fun k hk=>by injection hk;omega)⟩
   clear hA2 hA3 g3 q2 hV2 hV1 NU HRd q1'
   go_wp2_with fail
   refine (C2.out _ q3').mono ?_
   rintro e w4 ⟨rfl,q4⟩
   have hV:=hV3.kept q4
   have q4':=q3'.trans q4
   clear hV3 q4 q3' C2
   have b0:=hV.cell 0 rfl
   have b1:=hV.cell 1 rfl
   have b2:=hV.cell 2 rfl
   have d0:=hV.free 0 rfl
   have d1:=hV.free 1 rfl
   have d2:=hV.free 2 rfl
   have hset:=((hV.set 0 (.int .i64 0)).set 1 (.string ⟨#[]⟩)).set 2 (.slice none 0 0)
   have k0:=hset.cell 0 rfl
   have k1:=hset.cell 1 rfl
   have k2:=hset.cell 2 rfl
   have hq:Q w (((w4.setCell ⟨w.heap.size,0,none⟩ (.int .i64 0)).setCell ⟨w.heap.size,1,none⟩ (.string ⟨#[]⟩)).setCell ⟨w.heap.size,2,none⟩ (.slice none 0 0)):=((q4'.setCell (Nat.le_refl _) _).setCell (Nat.le_refl _) _).setCell (Nat.le_refl _) _
   clear hset hV q4'
   go_wp2_with fail
   refine bodyPost_ret (v:=.tuple #[.agg #[.int .i64 0,.string ⟨#[]⟩,.slice none 0 0],.int .i64 3]) (by simp [results,Tryz.results62,go_sem,k0,k1,k2]) rfl ?_
   exact ⟨rfl,hq⟩
  | some p2 =>
   obtain ⟨bl,idx⟩:=p2
   have hln2:=cutEnd_len hc2
   rw [hc2] at hE C2
   simp only at hE
   rw [hE]
   unfold cutRet at C2
   obtain ⟨Bb,hBb⟩:∃ Bb:ByteArray,Bb=⟨bl.toArray⟩:=⟨_,rfl⟩
   obtain ⟨Ib,hIb⟩:∃ Ib:ByteArray,Ib=⟨idx.toArray⟩:=⟨_,rfl⟩
   have hBd:Bb.data.toList=bl:=by rw [hBb]
   have hId:Ib.data.toList=idx:=by rw [hIb]
   have hBs:Bb.size≤1048576:=by rw [hBb];show bl.length≤_;omega
   have hIs:Ib.size≤1048576:=by rw [hIb];show idx.length≤_;omega
   simp only [←hBb,←hIb] at C2
   have RI:Hid _:=fun W=>readIndex_any Bb Ib hBs hIs W
   rw [hBd,hId] at RI
   clear HE hE hc2 HT hBb hIb
   go_enter Tryz.func62,Tryz.ntmps62
   go_wp2_with fail
   refine (HR.out _ ((Q.refl w).alloc _ _)).mono ?_
   rintro e w0 ⟨rfl,q0⟩
   have hV0:=(varN_new w [.int .i64 0,.string ⟨#[]⟩,.slice none 0 0] 124).kept q0
   have q0':=((Q.refl w).alloc _ _).trans q0
   clear q0
   go_wp2_with fail
   refine (C1.out _ q0').mono ?_
   rintro e w1 ⟨rfl,q1⟩
   have hV1:=hV0.kept q1
   have q1':=q0'.trans q1
   clear q1 q0' hV0 C1 HR
   go_wp2_with fail
   refine (HRd.out _).mono ?_
   rintro e w2 ⟨rfl,hA2,q2⟩
   have hV2:=hV1.kept q2
   have hs1:=hV1.1
   go_wp2_with fail
   refine (NU.out _ _ hA2).mono ?_
   rintro e w3 ⟨rfl,hA3,g3⟩
   have hV3:=hV2.grown g3 (by simp;omega)
   have q3':Q w w3:=⟨(q1'.below.trans (q2.below.mono q1'.below.size)).grown g3 (Nat.le_trans q1'.below.size q2.below.size) (fun k hk=>by injection hk;omega)⟩
   clear hA2 hA3 g3 q2 hV2 hV1 NU HRd q1'
   go_wp2_with fail
   refine (C2.out _ q3').mono ?_
   rintro e w4 ⟨rfl,q4⟩
   have hV:=hV3.kept q4
   have q4':=q3'.trans q4
   clear hV3 q4 q3' C2
   go_wp2_with fail
   refine (RI.out _).mono ?_
   rintro e w5 ⟨hL,q5⟩
   have hV5:=hV.kept q5
   have HS4:Hid (w.heap.size<w4.heap.size):=hV.1
   have q5':=q4'.trans q5
   clear hV q4' q5 RI
   unfold LaySaid at hL
   cases hr:S.readIdx bl idx with
   | none =>
    rw [hr] at hL
    simp only at hL
    subst hL
    have HRr:Hid _:=hr
    clear hr
    unfold noLay
    have b0:=hV5.cell 0 rfl
    have b1:=hV5.cell 1 rfl
    have b2:=hV5.cell 2 rfl
    have d0:=hV5.free 0 rfl
    have d1:=hV5.free 1 rfl
    have d2:=hV5.free 2 rfl
    have hset:=((hV5.set 0 (.int .i64 0)).set 1 (.string ⟨#[]⟩)).set 2 (.slice none 0 0)
    have k0:=hset.cell 0 rfl
    have k1:=hset.cell 1 rfl
    have k2:=hset.cell 2 rfl
    have hq:Q w (((w5.setCell ⟨w.heap.size,0,none⟩ (.int .i64 0)).setCell ⟨w.heap.size,1,none⟩ (.string ⟨#[]⟩)).setCell ⟨w.heap.size,2,none⟩ (.slice none 0 0)):=((q5'.setCell (Nat.le_refl _) _).setCell (Nat.le_refl _) _).setCell (Nat.le_refl _) _
    clear hset hV5 q5'
    go_wp2_with fail
    refine bodyPost_ret (v:=.tuple #[.agg #[.int .i64 0,.string ⟨#[]⟩,.slice none 0 0],.int .i64 3]) (by simp [results,Tryz.results62,go_sem,k0,k1,k2]) rfl ?_
    exact ⟨by rw [HRr.out];exact rfl,hq⟩
   | some L =>
    rw [hr] at hL
    obtain ⟨ao,cap,rfl,hEn,hEl⟩:=hL
    have hq4:=HS4.out
    have HRr:Hid _:=hr
    have HEl:Hid (∀ a,ao=some a→w.heap.size≤a.block):=fun a ha=>by have:=hEl a ha;omega
    clear hr
    unfold layVal
    have b0:=hV5.cell 0 rfl
    have b1:=hV5.cell 1 rfl
    have b2:=hV5.cell 2 rfl
    have d0:=hV5.free 0 rfl
    have d1:=hV5.free 1 rfl
    have d2:=hV5.free 2 rfl
    have hset:=((hV5.set 0 (.int .i64 L.wm)).set 1 (.string ⟨L.blocks.toArray⟩)).set 2 (.slice ao L.ents.length cap)
    have k0:=hset.cell 0 rfl
    have k1:=hset.cell 1 rfl
    have k2:=hset.cell 2 rfl
    have hq:Q w (((w5.setCell ⟨w.heap.size,0,none⟩ (.int .i64 L.wm)).setCell ⟨w.heap.size,1,none⟩ (.string ⟨L.blocks.toArray⟩)).setCell ⟨w.heap.size,2,none⟩ (.slice ao L.ents.length cap)):=((q5'.setCell (Nat.le_refl _) _).setCell (Nat.le_refl _) _).setCell (Nat.le_refl _) _
    have hEf:EntsAt (((w5.setCell ⟨w.heap.size,0,none⟩ (.int .i64 L.wm)).setCell ⟨w.heap.size,1,none⟩ (.string ⟨L.blocks.toArray⟩)).setCell ⟨w.heap.size,2,none⟩ (.slice ao L.ents.length cap)) ao L.ents:=by
     rcases hEn with h|⟨g,rfl,hg,hc⟩
     ·exact Or.inl h
     ·have hne:w.heap.size<g:=Nat.lt_of_lt_of_le hq4 (hEl _ rfl)
      have ox:∀ j,(((w5.setCell ⟨w.heap.size,0,none⟩ (.int .i64 L.wm)).setCell ⟨w.heap.size,1,none⟩ (.string ⟨L.blocks.toArray⟩)).setCell ⟨w.heap.size,2,none⟩ (.slice (some ⟨g,0,none⟩) L.ents.length cap)).cell? ⟨g,j,none⟩=w5.cell? ⟨g,j,none⟩:=fun j=>by
       rw [World.cell?_setCell_other _ _ _ _ (by intro e;injection e;omega),World.cell?_setCell_other _ _ _ _ (by intro e;injection e;omega),World.cell?_setCell_other _ _ _ _ (by intro e;injection e;omega)]
      refine Or.inr ⟨g,rfl,by simpa using hg,fun i e hi=>?_⟩
      rw [ox,ox,ox,ox]
      exact hc i e hi
    clear hset hV5 q5'
    go_wp2_with fail
    refine bodyPost_ret (v:=.tuple #[.agg #[.int .i64 L.wm,.string ⟨L.blocks.toArray⟩,.slice ao L.ents.length cap],.int .i64 0]) (by simp [results,Tryz.results62,go_sem,k0,k1,k2]) rfl ?_
    exact ⟨by rw [HRr.out];exact ⟨ao,cap,rfl,hEf,HEl.out⟩,hq⟩
theorem storeRead (tg:Tags) (o d:Nat) (D:M.Dsk) (ids ps:List Nat) (hD:D.Fine) (w:World) (h:LDiskAt w tg o d D ids ps) (hT:Tab w) :
  Calls Tryz.prog 62 #[.pointer (some ⟨d,0,none⟩)] w fun e w'=>ReadSaid w D e w'∧Q w w':=by
 have hR:=fun W (q:Q w W)=>diskRead tg o d D ids ps hD laidN W (h.kept q)
 have hs:=read_small hD laidN
 have hc:=read_code D laidN
 unfold ReadSaid
 obtain ⟨⟨x,c⟩,hx⟩:∃ p,p=D.read laidN:=⟨_,rfl⟩
 rw [←hx] at hR hs hc ⊢
 simp only at hR hs hc ⊢
 rcases hc with rfl|rfl|rfl
 ·have:=storeRead_some w d ⟨x.toArray⟩ hs hT hR
  simpa using this
 ·exact storeRead_none w d ⟨x.toArray⟩ hR
 ·exact storeRead_dead w d ⟨x.toArray⟩ hR
theorem LEnded.trans {tg tg1:Tags} {o d:Nat} {D':M.Dsk} {w w1 w2:World} (ht:∀ k,k<w.heap.size→tg1 k=tg k) (ho:Only o tg w w1) (h:LEnded tg1 o d D' w1 w2):LEnded tg o d D' w w2:=by
 obtain ⟨tg2,ids2,ps2,h1,h2,h3⟩:=h
 refine ⟨tg2,ids2,ps2,fun k hk=>(h1 k (Nat.lt_of_lt_of_le hk ho.size)).trans (ht k hk),h2,?_⟩
 exact ⟨h3.os.trans ho.os,h3.tape.trans ho.tape,h3.output.trans ho.output,Nat.le_trans ho.size h3.size,fun k hk hn=>(h3.block k (Nat.lt_of_lt_of_le hk ho.size) (by rw [ht k hk];exact hn)).trans (ho.block k hk hn)⟩
def S.thereCode (c:Nat):Nat:=if c=7 then 0 else c
theorem ifThere_any (c:Nat) (w:World):Calls Tryz.prog 66 #[.int .i64 (c:Int)] w fun e w'=>e=.returned (.int .i64 (S.thereCode c:Nat))∧w'=w:=by
 by_cases h7:c=7
 ·subst h7
  have:S.thereCode 7=0:=rfl
  rw [this]
  go_enter Tryz.func66,Tryz.ntmps66
  go_wp2_with fail
  go_ret
  exact ⟨rfl,rfl⟩
 ·have:S.thereCode c=c:=by simp [S.thereCode,h7]
  rw [this]
  have h7I:¬(c:Int)=7:=by omega
  have h7b:((c:Int) == 7)=false:=by rw [beq_eq_false_iff_ne];exact h7I
  clear this
  go_enter Tryz.func66,Tryz.ntmps66
  go_wp2_with fail
  go_ret
  exact ⟨rfl,rfl⟩
theorem tidy_any (tg:Tags) (o d:Nat) (D:M.Dsk) (ids ps:List Nat) (hD:D.Fine) (w:World) (h:LDiskAt w tg o d D ids ps) :
  Calls Tryz.prog 67 #[.pointer (some ⟨d,0,none⟩)] w fun e w'=>e=.returned (.int .i64 (S.thereCode (D.remove freshN).2:Nat))∧LEnded tg o d (D.remove freshN).1 w w':=by
 have HR:Hid _:=fun (_:Unit)=>diskRemove tg o d D ids ps hD freshN w h
 obtain ⟨⟨E,c⟩,hx⟩:∃ p,p=D.remove freshN:=⟨_,rfl⟩
 rw [←hx] at HR ⊢
 simp only at HR ⊢
 unfold freshN at HR
 have IT:Hid _:=fun (W:World)=>ifThere_any c W
 obtain ⟨c2,hc2⟩:∃ c2,c2=S.thereCode c:=⟨_,rfl⟩
 rw [←hc2] at IT ⊢
 clear hx hc2
 go_enter Tryz.func67,Tryz.ntmps67
 go_wp2_with fail
 refine (HR.out ()).mono ?_
 rintro e w1 ⟨rfl,hL⟩
 go_wp2_with fail
 refine (IT.out _).mono ?_
 rintro e w2 ⟨rfl,rfl⟩
 go_wp2_with fail
 go_ret
 exact ⟨rfl,hL⟩
def S.settle (D:M.Dsk):M.Dsk × Nat:=
 if S.thereCode (D.sync laidN).2=0 then (((D.sync laidN).1.remove freshN).1,S.thereCode ((D.sync laidN).1.remove freshN).2)
 else ((D.sync laidN).1,S.thereCode (D.sync laidN).2)
theorem settle_any (tg:Tags) (o d:Nat) (D:M.Dsk) (ids ps:List Nat) (hD:D.Fine) (w:World) (h:LDiskAt w tg o d D ids ps) :
  Calls Tryz.prog 40 #[.pointer (some ⟨d,0,none⟩)] w fun e w'=>e=.returned (.int .i64 ((S.settle D).2:Nat))∧LEnded tg o d (S.settle D).1 w w':=by
 have HS:Hid _:=fun (_:Unit)=>diskSync tg o d D ids ps hD laidN w h
 have hE:=hD.sync laidN
 unfold S.settle
 obtain ⟨⟨E,c⟩,hx⟩:∃ p,p=D.sync laidN:=⟨_,rfl⟩
 rw [←hx] at HS hE ⊢
 simp only at HS hE ⊢
 unfold laidN at HS
 have IT:Hid _:=fun (W:World)=>ifThere_any c W
 obtain ⟨c2,hc2⟩:∃ c2,c2=S.thereCode c:=⟨_,rfl⟩
 rw [←hc2] at IT ⊢
 have HT:Hid _:=fun (tg1:Tags) (ids1 ps1:List Nat) (W:World) (hW:LDiskAt W tg1 o d E ids1 ps1)=>tidy_any tg1 o d E ids1 ps1 hE W hW
 clear hx hc2 hE h hD
 by_cases h0:c2=0
 ·subst h0
  rw [if_pos rfl]
  obtain ⟨⟨E2,c3⟩,hx⟩:∃ p,p=(⟨(E.remove freshN).1,S.thereCode (E.remove freshN).2⟩:M.Dsk × Nat):=⟨_,rfl⟩
  have hx1:(E.remove freshN).1=E2:=(congrArg Prod.fst hx).symm
  have hx2:S.thereCode (E.remove freshN).2=c3:=(congrArg Prod.snd hx).symm
  rw [hx1,hx2] at HT ⊢
  clear hx hx1 hx2
  go_enter Tryz.func40,Tryz.ntmps40
  go_wp2_with fail
  refine (HS.out ()).mono ?_
  rintro e w1 ⟨rfl,tg1,ids1,ps1,ht1,hL1,ho1⟩
  have HH:Hid _:=And.intro ht1 (And.intro hL1 ho1)
  clear ht1 hL1 ho1 HS
  go_wp2_with fail
  refine (IT.out _).mono ?_
  rintro e w2 ⟨rfl,rfl⟩
  go_wp2_with fail
  refine (HT.out tg1 ids1 ps1 _ HH.out.2.1).mono ?_
  rintro e w3 ⟨rfl,hL3⟩
  go_wp2_with fail
  go_ret
  exact ⟨rfl,LEnded.trans HH.out.1 HH.out.2.2 hL3⟩
 ·rw [if_neg h0]
  have h0I:¬(c2:Int)=0:=by omega
  have h0b:((c2:Int) == 0)=false:=by rw [beq_eq_false_iff_ne];exact h0I
  clear HT
  go_enter Tryz.func40,Tryz.ntmps40
  go_wp2_with fail
  refine (HS.out ()).mono ?_
  rintro e w1 ⟨rfl,hL1⟩
  have HH:Hid _:=hL1
  clear hL1 HS
  go_wp2_with fail
  refine (IT.out _).mono ?_
  rintro e w2 ⟨rfl,rfl⟩
  go_wp2_with fail
  go_ret
  exact ⟨rfl,HH.out⟩
theorem LFileAt.named {w:World} {tg:Tags} {o p id:Nat} {f:M.Fil} {bo:Option Addr} {bc:Nat} (h:LFileAt w tg o p id f bo bc) (nm:ByteArray):LFileAt w tg o p id { f with name:=nm } bo bc:=⟨h.c0,h.c1,h.fr,h.own,h.tp,h.tb,h.top⟩
theorem nodup_set {l:List Nat} (h:l.Nodup) {k x:Nat} (hx:x∉l):(l.set k x).Nodup:=by
 rw [List.nodup_iff_pairwise_ne,List.pairwise_iff_getElem] at *
 intro i j hi hj hij
 simp only [List.length_set] at hi hj
 rw [List.getElem_set,List.getElem_set]
 split
 ·split
  ·omega
  ·intro e;exact hx (e▸List.getElem_mem hj)
 ·split
  ·intro e;exact hx (e▸List.getElem_mem hi)
  ·exact h i j hi hj hij
theorem rename_chg {D:M.Dsk} (hD:D.Fine) (old nm:ByteArray):D.rename old nm=if (D.chg (codeOf ((M.place D.files old).isSome && M.okName nm))).2=0 then (match D.files[(M.place D.files old).getD 0]? with | some f=>({ (D.chg (codeOf ((M.place D.files old).isSome && M.okName nm))).1 with files:=M.moved D.files ((M.place D.files old).getD 0) f nm },0) | none=>((D.chg (codeOf ((M.place D.files old).isSome && M.okName nm))).1,0)) else D.chg (codeOf ((M.place D.files old).isSome && M.okName nm)):=by
 rw [M.rename_moved hD,changed_chg]
 have hf:=chg_files D (codeOf ((M.place D.files old).isSome && M.okName nm))
 obtain ⟨⟨E,c⟩,hE⟩:∃ p,D.chg (codeOf ((M.place D.files old).isSome && M.okName nm))=p:=⟨_,rfl⟩
 rw [hE] at hf ⊢
 simp only at hf ⊢
 by_cases hc:c=0
 ·subst hc
  simp only [if_true]
  rw [hf]
  cases D.files[(M.place D.files old).getD 0]?<;>rfl
 ·simp only [if_neg hc]
theorem LDiskAt.putNew {w w':World} {tg:Tags} {o d:Nat} {D:M.Dsk} {ids ps:List Nat} (h:LDiskAt w tg o d D ids ps) {p id:Nat} {f:M.Fil} {bo:Option Addr} {bc:Nat} (hF:LFileAt w tg o p id f bo bc) (hid:id∉ids) (hpl:M.place D.files f.name=none)
  (hn:MapNew tg o d (insAt (namesOf D.files) (M.lowAt D.files f.name) f.name) (insAt ps (M.lowAt D.files f.name) p) w w') :
  ∃ tg':Tags,(∀ k,k<w.heap.size→tg' k=tg k)∧LDiskAt w' tg' o d ⟨D.cap,M.put D.files f,D.dead,D.fuse⟩ (insAt ids (M.lowAt D.files f.name) id) (insAt ps (M.lowAt D.files f.name) p)∧MapOnly tg o d w w':=by
 obtain ⟨tg',h1,h2,h3⟩:=hn
 have hle:=M.lowAt_le D.files f.name
 have hput:M.put D.files f=insAt D.files (M.lowAt D.files f.name) f:=(M.put_low hpl).1
 have hlI:=h.lenI
 have hlP:ps.length=D.files.length:=by have:=h.map.len;simpa using this
 rw [hput]
 refine ⟨tg',h1,h.remap h3 h1 ?_ (insAt_nodup h.nodup hid) (by rw [insAt_length (by omega),insAt_length hle];omega) (fun j q i g e1 e2 e3=>?_),h3⟩
 ·have:namesOf (insAt D.files (M.lowAt D.files f.name) f)=insAt (namesOf D.files) (M.lowAt D.files f.name) f.name:=(insAt_map (fun f:M.Fil=>f.name) _ _ _).symm
  rw [this]
  exact h2
 ·rcases insAt_get (by omega) e1 with ⟨rfl,rfl⟩|⟨hj,e1⟩
  ·rcases insAt_get (by omega) e2 with ⟨_,rfl⟩|⟨hj,_⟩
   ·rcases insAt_get hle e3 with ⟨_,rfl⟩|⟨hj,_⟩
    ·exact ⟨bo,bc,hF⟩
    ·exact absurd rfl hj
   ·exact absurd rfl hj
  ·rcases insAt_get (by omega) e2 with ⟨e,_⟩|⟨_,e2⟩
   ·exact absurd e hj
   ·rcases insAt_get hle e3 with ⟨e,_⟩|⟨_,e3⟩
    ·exact absurd e hj
    ·exact h.file _ q i g e1 e2 e3
theorem LDiskAt.putThere {w w':World} {tg:Tags} {o d:Nat} {D:M.Dsk} {ids ps:List Nat} (h:LDiskAt w tg o d D ids ps) {p id k:Nat} {f:M.Fil} {bo:Option Addr} {bc:Nat} (hF:LFileAt w tg o p id f bo bc) (hid:id∉ids) (hpl:M.place D.files f.name=some k)
  (hn:MapNew tg o d (namesOf D.files) (ps.set k p) w w') :
  ∃ tg':Tags,(∀ k,k<w.heap.size→tg' k=tg k)∧LDiskAt w' tg' o d ⟨D.cap,D.files.set k f,D.dead,D.fuse⟩ (ids.set k id) (ps.set k p)∧MapOnly tg o d w w':=by
 obtain ⟨tg',h1,h2,h3⟩:=hn
 obtain ⟨x,hx,hxn,_⟩:=M.place_some hpl
 have hxn:=M.named_eq.1 hxn
 refine ⟨tg',h1,h.remap h3 h1 ?_ (nodup_set h.nodup hid) (by simpa using h.lenI) (fun j q i g e1 e2 e3=>?_),h3⟩
 ·have:namesOf (D.files.set k f)=namesOf D.files:=M.set_names hx hxn.symm
  rw [this]
  exact h2
 ·by_cases hj:j=k
  ·subst hj
   have l1:j<ps.length:=by have:=(List.getElem?_eq_some_iff.1 e1).1;simpa using this
   have l2:j<ids.length:=by have:=(List.getElem?_eq_some_iff.1 e2).1;simpa using this
   have l3:j<D.files.length:=by have:=(List.getElem?_eq_some_iff.1 e3).1;simpa using this
   rw [List.getElem?_set_self l1] at e1
   rw [List.getElem?_set_self l2] at e2
   rw [List.getElem?_set_self l3] at e3
   obtain rfl:=Option.some.inj e1
   obtain rfl:=Option.some.inj e2
   obtain rfl:=Option.some.inj e3
   exact ⟨bo,bc,hF⟩
  ·rw [List.getElem?_set_ne (Ne.symm hj)] at e1 e2 e3
   exact h.file j q i g e1 e2 e3
theorem diskRename_no (tg:Tags) (o d:Nat) (D:M.Dsk) (ids ps:List Nat) (hD:D.Fine) (old nm:ByteArray) (hno:(D.chg (codeOf ((M.place D.files old).isSome && M.okName nm))).2≠0) (w:World) (h:LDiskAt w tg o d D ids ps) :
  Calls Tryz.prog 94 #[.pointer (some ⟨d,0,none⟩),.string old,.string nm] w fun e w'=>e=.returned (.int .i64 ((D.chg (codeOf ((M.place D.files old).isSome && M.okName nm))).2:Nat))∧LEnded tg o d (D.chg (codeOf ((M.place D.files old).isSome && M.okName nm))).1 w w':=by
 have HG:Hid _:=fun (_:Unit)=>mapGet tg o d D.files ps hD.sorted hD.good.few old w h.map
 have HC:Hid _:=fun (W:World) (hW:LDiskAt W tg o d D ids ps)=>diskChange tg o d D ids ps (codeOf ((M.place D.files old).isSome && M.okName nm)) hD.fuse W hW
 have HN:Hid _:=fun (W:World)=>diskIsName nm W
 have HD:Hid (LDiskAt w tg o d D ids ps):=h
 obtain ⟨⟨E,c⟩,hE⟩:∃ p,D.chg (codeOf ((M.place D.files old).isSome && M.okName nm))=p:=⟨_,rfl⟩
 rw [hE] at HC hno ⊢
 simp only at HC hno ⊢
 have hcb:((c:Int) == 0)=false:=by rw [beq_eq_false_iff_ne];omega
 clear h hE
 cases hp:M.place D.files old with
 | none =>
  rw [hp] at HG HC
  simp only [Option.isSome_none,Bool.false_and] at HC
  go_enter Tryz.func94,Tryz.ntmps94
  go_wp2_with fail
  refine (HG.out ()).mono ?_
  rintro e w1 ⟨rfl,q1⟩
  have HC1:Hid _:=fun (_:Unit)=>HC.out w1 (HD.out.kept q1)
  simp only [ptrAt,Option.isSome_none]
  clear HG HC
  go_wp2_with fail
  refine (diskNamed false w1).mono ?_
  rintro e w2 ⟨rfl,hw2⟩
  subst hw2
  go_wp2_with fail
  refine (HC1.out ()).mono ?_
  rintro e w3 ⟨rfl,hL,hO⟩
  have HEn:Hid (LEnded tg o d E w w3):=LEnded.same hL ((Only.of_q q1).trans hO)
  clear hL hO HC1
  go_wp2_with fail
  go_ret
  exact ⟨rfl,HEn.out⟩
 | some i =>
  rw [hp] at HG HC
  obtain ⟨f,p,id,e1,e2,e3,e4,_⟩:=place_ptr HD.out hp
  rw [e4] at HG
  simp only [Option.isSome_some,Bool.true_and] at HC
  clear e1 e2 e3 e4 hp
  go_enter Tryz.func94,Tryz.ntmps94
  go_wp2_with fail
  refine (HG.out ()).mono ?_
  rintro e w1 ⟨rfl,q1⟩
  simp only [Option.isSome_some]
  clear HG
  go_wp2_with fail
  refine (HN.out w1).mono ?_
  rintro e w2 ⟨rfl,q2⟩
  have HC1:Hid _:=fun (_:Unit)=>HC.out w2 (HD.out.kept (q1.trans q2))
  clear HC HN
  go_wp2_with fail
  refine (diskNamed (M.okName nm) w2).mono ?_
  rintro e w3 ⟨rfl,hw2⟩
  subst hw2
  go_wp2_with fail
  refine (HC1.out ()).mono ?_
  rintro e w4 ⟨rfl,hL,hO⟩
  have HEn:Hid (LEnded tg o d E w w4):=LEnded.same hL ((Only.of_q (q1.trans q2)).trans hO)
  clear hL hO HC1
  go_wp2_with fail
  go_ret
  exact ⟨rfl,HEn.out⟩
theorem putAny (tg tg1:Tags) (o d:Nat) (E:M.Dsk) (hE:E.Fine) (ids1 ps1:List Nat) (i p id:Nat) (f:M.Fil) (nm:ByteArray) (bo:Option Addr) (bc:Nat) (w w5:World)
  (h5:LDiskAt w5 tg1 o d ⟨E.cap,E.files.eraseIdx i,E.dead,E.fuse⟩ ids1 ps1) (hF:LFileAt w5 tg1 o p id f bo bc) (hid:id∉ids1) (ht:∀ k,k<w.heap.size→tg1 k=tg k) (hO:Only o tg w w5) (W:World) (hq:Q w5 W) :
  Calls Tryz.prog 72 #[.pointer (some ⟨d,1,none⟩),.string nm,.pointer (some ⟨p,0,none⟩)] W fun e w'=>e=.returned (.tuple #[])∧LEnded tg o d ⟨E.cap,M.moved E.files i f nm,E.dead,E.fuse⟩ w w':=by
 have hW:=h5.kept hq
 have hFW:LFileAt W tg1 o p id { f with name:=nm } bo bc:=(hF.keep hq.below.size (fun _ _=>rfl) (fun k hk _=>hq.below.block k hk)).named nm
 have hOW:Only o tg w W:=⟨(Only.of_q (o:=o) (tg:=tg) hq).os.trans hO.os,(Only.of_q (o:=o) (tg:=tg) hq).tape.trans hO.tape,(Only.of_q (o:=o) (tg:=tg) hq).output.trans hO.output,Nat.le_trans hO.size hq.below.size,fun k hk hn=>(hq.below.block k (Nat.lt_of_lt_of_le hk hO.size)).trans (hO.block k hk hn)⟩
 have hfin:∀ {w':World} {D':M.Dsk},(∃ (tg':Tags) (ids' ps':List Nat),(∀ k,k<W.heap.size→tg' k=tg1 k)∧LDiskAt w' tg' o d D' ids' ps'∧MapOnly tg1 o d W w')→LEnded tg o d D' w w':=fun ⟨tg',ids',ps',a1,a2,a3⟩ =>
  ⟨tg',ids',ps',fun k hk=>(a1 k (Nat.lt_of_lt_of_le hk hOW.size)).trans (ht k hk),a2,⟨a3.os.trans hOW.os,a3.tape.trans hOW.tape,a3.output.trans hOW.output,Nat.le_trans hOW.size a3.size,fun k hk hn=>(a3.only.block k (Nat.lt_of_lt_of_le hk hOW.size) (by rw [ht k hk];exact hn)).trans (hOW.block k hk hn)⟩⟩
 have hs:=hE.sorted.erase i
 have hl:(E.files.eraseIdx i).length≤64:=by have:=(List.eraseIdx_sublist E.files i).length_le;have:=hE.good.few;omega
 cases hp:M.place (E.files.eraseIdx i) nm with
 | some k =>
  refine (mapPut_there tg1 o d (E.files.eraseIdx i) ps1 hs hl nm p k hp W hW.map).mono ?_
  rintro e w' ⟨rfl,hn⟩
  obtain ⟨tg',a1,a2,a3⟩:=hW.putThere hFW hid hp hn
  have:M.moved E.files i f nm=(E.files.eraseIdx i).set k { f with name:=nm }:=by unfold M.moved;rw [hp]
  rw [this]
  exact ⟨rfl,hfin ⟨tg',_,_,a1,a2,a3⟩⟩
 | none =>
  refine (mapPut_new tg1 o d (E.files.eraseIdx i) ps1 hs hl nm p hp W hW.map).mono ?_
  rintro e w' ⟨rfl,hn⟩
  obtain ⟨tg',a1,a2,a3⟩:=hW.putNew hFW hid hp hn
  have:M.moved E.files i f nm=M.put (E.files.eraseIdx i) { f with name:=nm }:=by unfold M.moved;rw [hp]
  rw [this]
  exact ⟨rfl,hfin ⟨tg',_,_,a1,a2,a3⟩⟩
theorem diskRename_yes (tg:Tags) (o d:Nat) (D:M.Dsk) (ids ps:List Nat) (hD:D.Fine) (old nm:ByteArray) (i:Nat) (f:M.Fil) (E:M.Dsk) (hp:M.place D.files old=some i) (hf:D.files[i]?=some f) (hok:M.okName nm=true) (hE:D.chg (codeOf true)=(E,0)) (w:World) (h:LDiskAt w tg o d D ids ps) :
  Calls Tryz.prog 94 #[.pointer (some ⟨d,0,none⟩),.string old,.string nm] w fun e w'=>e=.returned (.int .i64 0)∧LEnded tg o d ⟨E.cap,M.moved D.files i f nm,E.dead,E.fuse⟩ w w':=by
 have HG:Hid _:=fun (_:Unit)=>mapGet tg o d D.files ps hD.sorted hD.good.few old w h.map
 have HC:Hid _:=fun (W:World) (hW:LDiskAt W tg o d D ids ps)=>diskChange tg o d D ids ps (codeOf true) hD.fuse W hW
 rw [hE] at HC
 have hfe:E.files=D.files:=by have:=chg_files D (codeOf true);rw [hE] at this;exact this
 have hEF:E.Fine:=by have:=hD.chg (codeOf true);rw [hE] at this;exact this
 have hfE:E.files[i]?=some f:=by rw [hfe];exact hf
 have HDr:Hid _:=fun (W:World) (hW:LDiskAt W tg o d E ids ps)=>mapDrop tg o d E.files ps hEF.sorted hEF.good.few old i (by rw [hfe];exact hp) W hW.map
 have HN:Hid _:=fun (W:World)=>diskIsName nm W
 rw [hok] at HN
 obtain ⟨f',p,id,e1,e2,e3,e4,_⟩:=place_ptr h hp
 rw [hp,e4] at HG
 have HD:Hid (LDiskAt w tg o d D ids ps):=h
 have hlim:nm.size≤281474976710656:=by
  unfold M.okName at hok
  simp at hok
  omega
 have HId:Hid (id∉ids.eraseIdx i):=erase_notin h.nodup e3
 have HP:Hid (ps[i]?=some p∧ids[i]?=some id):=⟨e2,e3⟩
 rw [←hfe]
 have HX:Hid (E.Fine∧E.files[i]?=some f):=⟨hEF,hfE⟩
 clear h hE hp hf hok hfe hEF hfE e1 e2 e3 e4
 go_enter Tryz.func94,Tryz.ntmps94
 go_wp2_with fail
 refine (HG.out ()).mono ?_
 rintro e w1 ⟨rfl,q1⟩
 simp only [Option.isSome_some]
 clear HG
 go_wp2_with fail
 refine (HN.out w1).mono ?_
 rintro e w2 ⟨rfl,q2⟩
 have HC1:Hid _:=fun (_:Unit)=>HC.out w2 (HD.out.kept (q1.trans q2))
 clear HC HN
 go_wp2_with fail
 refine (diskNamed true w2).mono ?_
 rintro e w3 ⟨rfl,hw2⟩
 subst hw2
 go_wp2_with fail
 refine (HC1.out ()).mono ?_
 rintro e w4 ⟨rfl,hL,hO⟩
 have HC2:Hid _:=fun (_:Unit)=>HDr.out w4 hL
 have HL:Hid _:=hL
 have HO:Hid (Only o tg w w4):=(Only.of_q (q1.trans q2)).trans hO
 clear hL hO HC1 HDr
 go_wp2_with fail
 refine (HC2.out ()).mono ?_
 rintro e w5 ⟨rfl,hN⟩
 obtain ⟨tg1,a1,a2,a3⟩:=HL.out.erased i hN
 obtain ⟨bo,bc,hF⟩:=HL.out.file i p id f HP.out.1 HP.out.2 HX.out.2
 have hF5:LFileAt w5 tg1 o p id f bo bc:=hF.keep a3.size a1 (fun k hk e=>a3.block k hk (by rcases e with e | e<;>exact tag_ne e (by omega)) (by rcases e with e | e<;>exact tag_ne e (by omega)) (by rcases e with e | e<;>exact tag_ne e (by omega)))
 have HPut:Hid _:=fun (W:World) (hq:Q w5 W)=>putAny tg tg1 o d E HX.out.1 (ids.eraseIdx i) (ps.eraseIdx i) i p id f nm bo bc w w5 a2 hF5 HId.out (fun k hk=>a1 k (Nat.lt_of_lt_of_le hk HO.out.size)) (HO.out.trans a3.only) W hq
 clear a1 a2 a3 hF hF5 HC2 HL HO HId HP HX hN
 go_upto_region 5 with fail
 go_region_held3 (fun _=>True) (exact trivial)
  (first
   | (go_at_call 47;refine (clone_any nm _ hlim).mono ?_;rintro e w6 ⟨rfl,b6⟩;have hS6:True:=trivial)
   | (go_at_call 72;refine (HPut.out w6 (((Q.refl w5).drew).trans ⟨b6⟩)).mono ?_;rintro e w7 ⟨rfl,hEn⟩;have HEn:Hid _:=hEn;clear hEn))
 go_wp2_with fail
 go_ret
 exact ⟨rfl,HEn.out⟩
theorem diskRename (tg:Tags) (o d:Nat) (D:M.Dsk) (ids ps:List Nat) (hD:D.Fine) (old nm:ByteArray) (w:World) (h:LDiskAt w tg o d D ids ps) :
  Calls Tryz.prog 94 #[.pointer (some ⟨d,0,none⟩),.string old,.string nm] w fun e w'=>e=.returned (.int .i64 ((D.rename old nm).2:Nat))∧LEnded tg o d (D.rename old nm).1 w w':=by
 rw [rename_chg hD]
 by_cases hc:(D.chg (codeOf ((M.place D.files old).isSome && M.okName nm))).2=0
 ·rw [if_pos hc]
  have hz:=(chg_zero hc).1
  have hb:((M.place D.files old).isSome && M.okName nm)=true:=by
   cases hx:((M.place D.files old).isSome && M.okName nm)
   ·rw [hx] at hz;simp [codeOf] at hz
   ·rfl
  simp only [Bool.and_eq_true] at hb
  cases hp:M.place D.files old with
  | none=>rw [hp] at hb;simp at hb
  | some i =>
   rw [hp] at hc
   simp only [Option.isSome_some,hb.2,Bool.true_and] at hc ⊢
   obtain ⟨f,hf,_,_⟩:=M.place_some hp
   obtain ⟨⟨E,c⟩,hE⟩:∃ p,D.chg (codeOf true)=p:=⟨_,rfl⟩
   rw [hE] at hc ⊢
   simp only at hc
   subst hc
   simp only [Option.getD_some,hf]
   exact diskRename_yes tg o d D ids ps hD old nm i f E hp hf hb.2 hE w h
 ·rw [if_neg hc]
  exact diskRename_no tg o d D ids ps hD old nm hc w h
theorem diskAppending (tg:Tags) (o d:Nat) (D:M.Dsk) (ids ps:List Nat) (hD:D.Fine) (nm:ByteArray) (n:Nat) (w:World) (h:LDiskAt w tg o d D ids ps) :
  Calls Tryz.prog 71 #[.pointer (some ⟨d,0,none⟩),.string nm,.bool (M.place D.files nm).isSome,.int .i64 (n:Int)] w fun e w'=>e=.returned (.int .i64 (appCode D nm n:Nat))∧Q w w':=by
 have HN:Hid _:=fun (W:World)=>diskIsName nm W
 have HD:Hid (LDiskAt w tg o d D ids ps):=h
 unfold appCode
 cases ho:M.okName nm
 ·rw [ho] at HN
  rw [if_pos rfl]
  clear h
  go_enter Tryz.func71,Tryz.ntmps71
  go_wp2_with fail
  refine (HN.out w).mono ?_
  rintro e w1 ⟨rfl,qA⟩
  clear HN
  go_wp2_with fail
  go_ret
  exact ⟨rfl,qA⟩
 ·rw [ho] at HN
  simp only [Bool.true_eq_false,if_false]
  have hfit:=hD.good.fits
  have hcap:=hD.good.cap
  have hfew:=hD.good.few
  obtain ⟨room,hroom⟩:∃ room,D.cap-M.total D.files=room:=⟨_,rfl⟩
  have hwr:IntKind.i64.wrap ((D.cap:Int)-(M.total D.files:Int))=(room:Int):=by rw [IntKind.wrap_i64];omega
  by_cases hov:D.cap<M.total D.files+n
  ·rw [if_pos (Or.inl hov)]
   have d1:decide ((room:Int)<(n:Int))=true:=by rw [decide_eq_true_eq];omega
   have hrn:room<n:=by omega
   obtain ⟨tot,htot⟩:∃ tot,M.total D.files=tot:=⟨_,rfl⟩
   rw [htot] at hwr
   have HS:Hid (∀ W,Q w W→Calls Tryz.prog 16 #[.pointer (some ⟨d,0,none⟩)] W fun e w'=>e=.returned (.int .i64 (tot:Nat))∧Q W w'):=fun W q=>by rw [←htot];exact diskSize tg o d D ids ps hD W (h.kept q)
   have cc:=h.c0
   clear h hfit hcap hfew hroom hov htot
   go_enter Tryz.func71,Tryz.ntmps71
   go_wp2_with fail
   refine (HN.out w).mono ?_
   rintro e w1 ⟨rfl,qA⟩
   have c0:=kept_cell cc qA
   have HS:Hid (∀ W,Q w1 W→Calls Tryz.prog 16 #[.pointer (some ⟨d,0,none⟩)] W fun e w'=>e=.returned (.int .i64 (tot:Nat))∧Q W w'):=fun W q=>HS.out W (qA.trans q)
   clear HN cc
   go_upto_region 3 with fail
   refine wp_region_held_drew (S:=fun w'=>Q w1 w'∧w'.cell? ⟨d,0,none⟩=some (.int .i64 (D.cap:Int))) (by kernel_rfl) ⟨(Q.refl w1).drew,c0⟩ (fun hHeld=>?_)
   refine tk3 (i:=0) (v:=?_) rfl (Or.inl ⟨by kernel_rfl,?_⟩) hHeld ?_
   rotate_left
   ·(intro w hSw;(try dsimp only at hSw);go_simp;try with_reducible rfl)
   try simp only [Act.put,nrm]
   refine tk3 (i:=1) (v:=?_) rfl (Or.inl ⟨by kernel_rfl,?_⟩) hHeld ?_
   rotate_left
   ·(intro w hSw;(try dsimp only at hSw);go_simp;try with_reducible rfl)
   try simp only [Act.put,nrm]
   refine tk3 (i:=2) (v:=?_) rfl (Or.inl ⟨by kernel_rfl,?_⟩) hHeld ?_
   rotate_left
   ·(intro w hSw;(try dsimp only at hSw);go_simp;try with_reducible rfl)
   try simp only [Act.put,nrm]
   refine tk3 (i:=3) (v:=?_) rfl (Or.inl ⟨by kernel_rfl,?_⟩) hHeld ?_
   rotate_left
   ·(intro w hSw;(try dsimp only at hSw);go_simp;try with_reducible rfl)
   try simp only [Act.put,nrm]
   refine tk3 (i:=4) (v:=?_) rfl (Or.inl ⟨by kernel_rfl,?_⟩) hHeld ?_
   rotate_left
   ·(intro w hSw;(try dsimp only at hSw);go_simp;try with_reducible rfl)
   try simp only [Act.put,nrm]
   refine tk3 (i:=5) (v:=?_) rfl (Or.inl ⟨by kernel_rfl,?_⟩) hHeld ?_
   rotate_left
   ·(intro w hSw;(try dsimp only at hSw);go_simp;try with_reducible rfl)
   try simp only [Act.put,nrm]
   refine wpAnyH_ready (rs:=[6]) (by kernel_rfl) (by simp) ?_
   refine AllReadyH.cons rfl (fun K hK=>?_) AllReadyH.nil
   go_simp
   refine ((HS.out _ hHeld.1)).mono ?_
   rintro e v1 ⟨rfl,q1⟩
   try go_wp2_with fail
   refine hK.out _ _ ⟨hHeld.1.trans q1,kept_cell hHeld.2 q1⟩ (fun hHeld0=>?_)
   clear hK K hHeld
   have hHeld:=hHeld0
   clear hHeld0
   try simp only [Act.put,nrm]
   refine tk3 (i:=7) (v:=?_) rfl (Or.inl ⟨by kernel_rfl,?_⟩) hHeld ?_
   rotate_left
   ·(intro w hSw;(try dsimp only at hSw);go_simp;try with_reducible rfl)
   try simp only [Act.put,nrm]
   refine tk3 (i:=8) (v:=?_) rfl (Or.inl ⟨by kernel_rfl,?_⟩) hHeld ?_
   rotate_left
   ·(intro w hSw;(try dsimp only at hSw);go_simp;try with_reducible rfl)
   try simp only [Act.put,nrm]
   refine tk3 (i:=9) (v:=?_) rfl (Or.inl ⟨by kernel_rfl,?_⟩) hHeld ?_
   rotate_left
   ·(intro w hSw;(try dsimp only at hSw);go_simp;try with_reducible rfl)
   try simp only [Act.put,nrm]
   refine tk3 (i:=10) (v:=undef) rfl (Or.inr ⟨by kernel_rfl,rfl⟩) hHeld ?_
   try simp only [Act.put,nrm]
   refine tk3 (i:=11) (v:=undef) rfl (Or.inr ⟨by kernel_rfl,rfl⟩) hHeld ?_
   try simp only [Act.put,nrm]
   refine tk3 (i:=12) (v:=undef) rfl (Or.inr ⟨by kernel_rfl,rfl⟩) hHeld ?_
   try simp only [Act.put,nrm]
   refine tk3 (i:=13) (v:=undef) rfl (Or.inr ⟨by kernel_rfl,rfl⟩) hHeld ?_
   try simp only [Act.put,nrm]
   refine tk3 (i:=14) (v:=undef) rfl (Or.inr ⟨by kernel_rfl,rfl⟩) hHeld ?_
   try simp only [Act.put,nrm]
   refine tk3 (i:=15) (v:=undef) rfl (Or.inr ⟨by kernel_rfl,rfl⟩) hHeld ?_
   try simp only [Act.put,nrm]
   refine tk3 (i:=16) (v:=undef) rfl (Or.inr ⟨by kernel_rfl,rfl⟩) hHeld ?_
   try simp only [Act.put,nrm]
   refine tk3 (i:=17) (v:=undef) rfl (Or.inr ⟨by kernel_rfl,rfl⟩) hHeld ?_
   try simp only [Act.put,nrm]
   refine tk3 (i:=18) (v:=undef) rfl (Or.inr ⟨by kernel_rfl,rfl⟩) hHeld ?_
   try simp only [Act.put,nrm]
   refine tk3 (i:=19) (v:=?_) rfl (Or.inl ⟨by kernel_rfl,?_⟩) hHeld ?_
   rotate_left
   ·(intro w hSw;(try dsimp only at hSw);go_simp;try with_reducible rfl)
   try simp only [Act.put,nrm]
   refine wpAnyH_done (by kernel_rfl) ?_ _
   go_wp2_with fail
   go_ret
   exact ⟨rfl,qA.trans hHeld.1⟩
  ·have d1:decide ((room:Int)<(n:Int))=false:=by rw [decide_eq_false_iff_not];omega
   have hrn:¬room<n:=by omega
   obtain ⟨tot,htot⟩:∃ tot,M.total D.files=tot:=⟨_,rfl⟩
   rw [htot] at hwr
   have HS:Hid (∀ W,Q w W→Calls Tryz.prog 16 #[.pointer (some ⟨d,0,none⟩)] W fun e w'=>e=.returned (.int .i64 (tot:Nat))∧Q W w'):=fun W q=>by rw [←htot];exact diskSize tg o d D ids ps hD W (h.kept q)
   have cc:=h.c0
   cases hp:M.place D.files nm with
   | some i =>
    rw [if_neg (fun e=>by rcases e with e | e;exact hov e;simp at e)]
    simp only [Option.isSome_some]
    clear h hfit hcap hfew hroom hov htot hp
    go_enter Tryz.func71,Tryz.ntmps71
    go_wp2_with fail
    refine (HN.out w).mono ?_
    rintro e w1 ⟨rfl,qA⟩
    have c0:=kept_cell cc qA
    have HS:Hid (∀ W,Q w1 W→Calls Tryz.prog 16 #[.pointer (some ⟨d,0,none⟩)] W fun e w'=>e=.returned (.int .i64 (tot:Nat))∧Q W w'):=fun W q=>HS.out W (qA.trans q)
    clear HN cc
    go_upto_region 3 with fail
    refine wp_region_held_drew (S:=fun w'=>Q w1 w'∧w'.cell? ⟨d,0,none⟩=some (.int .i64 (D.cap:Int))) (by kernel_rfl) ⟨(Q.refl w1).drew,c0⟩ (fun hHeld=>?_)
    refine tk3 (i:=0) (v:=?_) rfl (Or.inl ⟨by kernel_rfl,?_⟩) hHeld ?_
    rotate_left
    ·(intro w hSw;(try dsimp only at hSw);go_simp;try with_reducible rfl)
    try simp only [Act.put,nrm]
    refine tk3 (i:=1) (v:=?_) rfl (Or.inl ⟨by kernel_rfl,?_⟩) hHeld ?_
    rotate_left
    ·(intro w hSw;(try dsimp only at hSw);go_simp;try with_reducible rfl)
    try simp only [Act.put,nrm]
    refine tk3 (i:=2) (v:=?_) rfl (Or.inl ⟨by kernel_rfl,?_⟩) hHeld ?_
    rotate_left
    ·(intro w hSw;(try dsimp only at hSw);go_simp;try with_reducible rfl)
    try simp only [Act.put,nrm]
    refine tk3 (i:=3) (v:=?_) rfl (Or.inl ⟨by kernel_rfl,?_⟩) hHeld ?_
    rotate_left
    ·(intro w hSw;(try dsimp only at hSw);go_simp;try with_reducible rfl)
    try simp only [Act.put,nrm]
    refine tk3 (i:=4) (v:=?_) rfl (Or.inl ⟨by kernel_rfl,?_⟩) hHeld ?_
    rotate_left
    ·(intro w hSw;(try dsimp only at hSw);go_simp;try with_reducible rfl)
    try simp only [Act.put,nrm]
    refine tk3 (i:=5) (v:=?_) rfl (Or.inl ⟨by kernel_rfl,?_⟩) hHeld ?_
    rotate_left
    ·(intro w hSw;(try dsimp only at hSw);go_simp;try with_reducible rfl)
    try simp only [Act.put,nrm]
    refine wpAnyH_ready (rs:=[6]) (by kernel_rfl) (by simp) ?_
    refine AllReadyH.cons rfl (fun K hK=>?_) AllReadyH.nil
    go_simp
    refine ((HS.out _ hHeld.1)).mono ?_
    rintro e v1 ⟨rfl,q1⟩
    try go_wp2_with fail
    refine hK.out _ _ ⟨hHeld.1.trans q1,kept_cell hHeld.2 q1⟩ (fun hHeld0=>?_)
    clear hK K hHeld
    have hHeld:=hHeld0
    clear hHeld0
    try simp only [Act.put,nrm]
    refine tk3 (i:=7) (v:=?_) rfl (Or.inl ⟨by kernel_rfl,?_⟩) hHeld ?_
    rotate_left
    ·(intro w hSw;(try dsimp only at hSw);go_simp;try with_reducible rfl)
    try simp only [Act.put,nrm]
    refine tk3 (i:=8) (v:=?_) rfl (Or.inl ⟨by kernel_rfl,?_⟩) hHeld ?_
    rotate_left
    ·(intro w hSw;(try dsimp only at hSw);go_simp;try with_reducible rfl)
    try simp only [Act.put,nrm]
    refine tk3 (i:=9) (v:=?_) rfl (Or.inl ⟨by kernel_rfl,?_⟩) hHeld ?_
    rotate_left
    ·(intro w hSw;(try dsimp only at hSw);go_simp;try with_reducible rfl)
    try simp only [Act.put,nrm]
    refine tk3 (i:=10) (v:=?_) rfl (Or.inl ⟨by kernel_rfl,?_⟩) hHeld ?_
    rotate_left
    ·(intro w hSw;(try dsimp only at hSw);go_simp;try with_reducible rfl)
    try simp only [Act.put,nrm]
    refine tk3 (i:=11) (v:=?_) rfl (Or.inl ⟨by kernel_rfl,?_⟩) hHeld ?_
    rotate_left
    ·(intro w hSw;(try dsimp only at hSw);go_simp;try with_reducible rfl)
    try simp only [Act.put,nrm]
    refine tk3 (i:=12) (v:=?_) rfl (Or.inl ⟨by kernel_rfl,?_⟩) hHeld ?_
    rotate_left
    ·(intro w hSw;(try dsimp only at hSw);go_simp;try with_reducible rfl)
    try simp only [Act.put,nrm]
    refine tk3 (i:=13) (v:=undef) rfl (Or.inr ⟨by kernel_rfl,rfl⟩) hHeld ?_
    try simp only [Act.put,nrm]
    refine tk3 (i:=14) (v:=undef) rfl (Or.inr ⟨by kernel_rfl,rfl⟩) hHeld ?_
    try simp only [Act.put,nrm]
    refine tk3 (i:=15) (v:=undef) rfl (Or.inr ⟨by kernel_rfl,rfl⟩) hHeld ?_
    try simp only [Act.put,nrm]
    refine tk3 (i:=16) (v:=undef) rfl (Or.inr ⟨by kernel_rfl,rfl⟩) hHeld ?_
    try simp only [Act.put,nrm]
    refine tk3 (i:=17) (v:=undef) rfl (Or.inr ⟨by kernel_rfl,rfl⟩) hHeld ?_
    try simp only [Act.put,nrm]
    refine tk3 (i:=18) (v:=?_) rfl (Or.inl ⟨by kernel_rfl,?_⟩) hHeld ?_
    rotate_left
    ·(intro w hSw;(try dsimp only at hSw);go_simp;try with_reducible rfl)
    try simp only [Act.put,nrm]
    refine tk3 (i:=19) (v:=?_) rfl (Or.inl ⟨by kernel_rfl,?_⟩) hHeld ?_
    rotate_left
    ·(intro w hSw;(try dsimp only at hSw);go_simp;try with_reducible rfl)
    try simp only [Act.put,nrm]
    refine wpAnyH_done (by kernel_rfl) ?_ _
    go_wp2_with fail
    go_ret
    exact ⟨rfl,qA.trans hHeld.1⟩
   | none =>
    have HLn:Hid (∀ W,Q w W→Calls Tryz.prog 68 #[.pointer (some ⟨d,1,none⟩)] W fun e w'=>e=.returned (.int .i64 (D.files.length:Nat))∧w'=W):=fun W q=>mapLen tg o d D.files ps W (h.kept q).map
    have hfull:(if D.cap<M.total D.files+n∨((none:Option Nat)=none∧64≤D.files.length) then 9 else 0)=if 64≤D.files.length then 9 else 0:=by simp [hov]
    rw [hfull]
    simp only [Option.isSome_none]
    obtain ⟨len,hlen⟩:∃ len,D.files.length=len:=⟨_,rfl⟩
    rw [hlen] at hfew HLn ⊢
    have d2:((len:Int) == 64)=decide (64≤len):=by rw [Bool.eq_iff_iff];simp;omega
    have hif:(if 64≤len then 9 else 0)=if decide (64≤len)=true then 9 else 0:=by simp
    rw [hif]
    obtain ⟨fb,hfb⟩:∃ fb,decide (64≤len)=fb:=⟨_,rfl⟩
    rw [hfb] at d2 ⊢
    clear h hfit hcap hfew hroom hov htot hp hfull hif hlen hfb
    go_enter Tryz.func71,Tryz.ntmps71
    go_wp2_with fail
    refine (HN.out w).mono ?_
    rintro e w1 ⟨rfl,qA⟩
    have c0:=kept_cell cc qA
    have HS:Hid (∀ W,Q w1 W→Calls Tryz.prog 16 #[.pointer (some ⟨d,0,none⟩)] W fun e w'=>e=.returned (.int .i64 (tot:Nat))∧Q W w'):=fun W q=>HS.out W (qA.trans q)
    have HLn:Hid (∀ W,Q w1 W→Calls Tryz.prog 68 #[.pointer (some ⟨d,1,none⟩)] W fun e w'=>e=.returned (.int .i64 (len:Nat))∧w'=W):=fun W q=>HLn.out W (qA.trans q)
    clear HN cc
    go_upto_region 3 with fail
    refine wp_region_held_drew (S:=fun w'=>Q w1 w'∧w'.cell? ⟨d,0,none⟩=some (.int .i64 (D.cap:Int))) (by kernel_rfl) ⟨(Q.refl w1).drew,c0⟩ (fun hHeld=>?_)
    refine tk3 (i:=0) (v:=?_) rfl (Or.inl ⟨by kernel_rfl,?_⟩) hHeld ?_
    rotate_left
    ·(intro w hSw;(try dsimp only at hSw);go_simp;try with_reducible rfl)
    try simp only [Act.put,nrm]
    refine tk3 (i:=1) (v:=?_) rfl (Or.inl ⟨by kernel_rfl,?_⟩) hHeld ?_
    rotate_left
    ·(intro w hSw;(try dsimp only at hSw);go_simp;try with_reducible rfl)
    try simp only [Act.put,nrm]
    refine tk3 (i:=2) (v:=?_) rfl (Or.inl ⟨by kernel_rfl,?_⟩) hHeld ?_
    rotate_left
    ·(intro w hSw;(try dsimp only at hSw);go_simp;try with_reducible rfl)
    try simp only [Act.put,nrm]
    refine tk3 (i:=3) (v:=?_) rfl (Or.inl ⟨by kernel_rfl,?_⟩) hHeld ?_
    rotate_left
    ·(intro w hSw;(try dsimp only at hSw);go_simp;try with_reducible rfl)
    try simp only [Act.put,nrm]
    refine tk3 (i:=4) (v:=?_) rfl (Or.inl ⟨by kernel_rfl,?_⟩) hHeld ?_
    rotate_left
    ·(intro w hSw;(try dsimp only at hSw);go_simp;try with_reducible rfl)
    try simp only [Act.put,nrm]
    refine tk3 (i:=5) (v:=?_) rfl (Or.inl ⟨by kernel_rfl,?_⟩) hHeld ?_
    rotate_left
    ·(intro w hSw;(try dsimp only at hSw);go_simp;try with_reducible rfl)
    try simp only [Act.put,nrm]
    refine wpAnyH_ready (rs:=[6]) (by kernel_rfl) (by simp) ?_
    refine AllReadyH.cons rfl (fun K hK=>?_) AllReadyH.nil
    go_simp
    refine ((HS.out _ hHeld.1)).mono ?_
    rintro e v1 ⟨rfl,q1⟩
    try go_wp2_with fail
    refine hK.out _ _ ⟨hHeld.1.trans q1,kept_cell hHeld.2 q1⟩ (fun hHeld0=>?_)
    clear hK K hHeld
    have hHeld:=hHeld0
    clear hHeld0
    try simp only [Act.put,nrm]
    refine tk3 (i:=7) (v:=?_) rfl (Or.inl ⟨by kernel_rfl,?_⟩) hHeld ?_
    rotate_left
    ·(intro w hSw;(try dsimp only at hSw);go_simp;try with_reducible rfl)
    try simp only [Act.put,nrm]
    refine tk3 (i:=8) (v:=?_) rfl (Or.inl ⟨by kernel_rfl,?_⟩) hHeld ?_
    rotate_left
    ·(intro w hSw;(try dsimp only at hSw);go_simp;try with_reducible rfl)
    try simp only [Act.put,nrm]
    refine tk3 (i:=9) (v:=?_) rfl (Or.inl ⟨by kernel_rfl,?_⟩) hHeld ?_
    rotate_left
    ·(intro w hSw;(try dsimp only at hSw);go_simp;try with_reducible rfl)
    try simp only [Act.put,nrm]
    refine tk3 (i:=10) (v:=?_) rfl (Or.inl ⟨by kernel_rfl,?_⟩) hHeld ?_
    rotate_left
    ·(intro w hSw;(try dsimp only at hSw);go_simp;try with_reducible rfl)
    try simp only [Act.put,nrm]
    refine tk3 (i:=11) (v:=?_) rfl (Or.inl ⟨by kernel_rfl,?_⟩) hHeld ?_
    rotate_left
    ·(intro w hSw;(try dsimp only at hSw);go_simp;try with_reducible rfl)
    try simp only [Act.put,nrm]
    refine tk3 (i:=12) (v:=?_) rfl (Or.inl ⟨by kernel_rfl,?_⟩) hHeld ?_
    rotate_left
    ·(intro w hSw;(try dsimp only at hSw);go_simp;try with_reducible rfl)
    try simp only [Act.put,nrm]
    refine tk3 (i:=13) (v:=?_) rfl (Or.inl ⟨by kernel_rfl,?_⟩) hHeld ?_
    rotate_left
    ·(intro w hSw;(try dsimp only at hSw);go_simp;try with_reducible rfl)
    try simp only [Act.put,nrm]
    refine tk3 (i:=14) (v:=?_) rfl (Or.inl ⟨by kernel_rfl,?_⟩) hHeld ?_
    rotate_left
    ·(intro w hSw;(try dsimp only at hSw);go_simp;try with_reducible rfl)
    try simp only [Act.put,nrm]
    refine tk3 (i:=15) (v:=?_) rfl (Or.inl ⟨by kernel_rfl,?_⟩) hHeld ?_
    rotate_left
    ·(intro w hSw;(try dsimp only at hSw);go_simp;try with_reducible rfl)
    try simp only [Act.put,nrm]
    refine wpAnyH_ready (rs:=[16]) (by kernel_rfl) (by simp) ?_
    refine AllReadyH.cons rfl (fun K hK=>?_) AllReadyH.nil
    go_simp
    refine ((HLn.out _ hHeld.1)).mono ?_
    rintro e v2 ⟨rfl,q2⟩
    try go_wp2_with fail
    refine hK.out _ _ (by first | exact hHeld | (rw [q2];exact hHeld)) (fun hHeld0=>?_)
    clear hK K hHeld
    have hHeld:=hHeld0
    clear hHeld0
    try simp only [Act.put,nrm]
    refine tk3 (i:=17) (v:=?_) rfl (Or.inl ⟨by kernel_rfl,?_⟩) hHeld ?_
    rotate_left
    ·(intro w hSw;(try dsimp only at hSw);go_simp;try with_reducible rfl)
    try simp only [Act.put,nrm]
    refine tk3 (i:=18) (v:=?_) rfl (Or.inl ⟨by kernel_rfl,?_⟩) hHeld ?_
    rotate_left
    ·(intro w hSw;(try dsimp only at hSw);go_simp;try with_reducible rfl)
    try simp only [Act.put,nrm]
    refine tk3 (i:=19) (v:=?_) rfl (Or.inl ⟨by kernel_rfl,?_⟩) hHeld ?_
    rotate_left
    ·(intro w hSw;(try dsimp only at hSw);go_simp;try with_reducible rfl)
    try simp only [Act.put,nrm]
    refine wpAnyH_done (by kernel_rfl) ?_ _
    cases fb
    ·go_wp2_with fail
     go_ret
     exact ⟨rfl,qA.trans hHeld.1⟩
    ·go_wp2_with fail
     go_ret
     exact ⟨rfl,qA.trans hHeld.1⟩
end Go.Proofs.YtekdenkllipehabGreatDoor
namespace Go.Proofs.YtekdenkllipehabGreatDoor
open Go.RowKit Go.Lib
theorem append_text {P:Program} (w:World) (t u ty e:TypeId) (i:TypeInfo) (ht:P.underlying t=some (.slice e)) (hu:P.underlying u=some .string) (hi:P.info? e=some i) (hz:i.zero=some (.int .u8 0)) (hsize:i.size=1) (hby:i.bytes=1)
  (v:Value) (n:Nat) (xs:List Value) (hown:w.ownsRow 0 e 1 v n xs) (s:ByteArray) (h63:n+s.size≤maxLen) (hbytes:n+s.size≤140737488355328) :
  ∃ v' w',(Builtin.append_ #[t,u] ty #[v,.string s]).run P w=.ok v' w'∧w'.ownsRow 0 e 1 v' (n+s.size) (xs++strCells s)∧w.grownBy w' v.ownBlock∧(v'.ownBlock=v.ownBlock∨∃ g,v'.ownBlock=some g∧w.heap.size≤g):=by
 obtain ⟨v',w',hr,h2,h3,h4⟩:=run_append_own_string (P:=P) w 0 t u ty e i ht hu hi hz hsize hby v n xs hown s h63 hbytes (Nat.zero_le _)
 refine ⟨v',w',hr,h2,h3,?_⟩
 have hsmall:n+s.size≤9223372036854775807:=by simp only [maxLen] at h63;omega
 have hxl:xs.length=n:=by simpa using hown.1
 rcases hown.2 with ⟨rfl,rfl⟩|⟨g,cap,cur,rfl,hbg,hg,hnc,hcm,hcs,htake⟩
 ·by_cases hm:s.size=0
  ·rw [h4.2 ⟨rfl,hm⟩]
   exact Or.inl rfl
  ·have hr2:=run_append_nil_string (P:=P) w t u ty e i (.int .u8 0) ht hu hi hz s (by omega) (by omega) (by rw [hby];omega)
   rw [hr2] at hr
   injection hr with hv _
   subst hv
   exact Or.inr ⟨_,rfl,Nat.le_refl _⟩
 ·by_cases hroom:n+s.size≤cap
  ·have hcs':cur.size=cap:=by simpa using hcs
   have hr2:=run_append_room_string (P:=P) w t u ty e i ht hu hi hsize g n cap cur hg s hroom (by omega)
   rw [hr2] at hr
   injection hr with hv _
   subst hv
   exact Or.inl rfl
  ·have holds:∀ j u,xs[j]?=some u→w.cell? ((⟨g,0,none⟩:Addr).add j)=some u:=hown.cells (g:=g) rfl
   have hr2:=run_append_grow_string (P:=P) w t u ty e i (.int .u8 0) ht hu hi hz ⟨g,0,none⟩ n cap xs (by rw [hsize];simpa using hxl) holds s (by omega) (by omega) (by rw [hby];exact growslice_fits (by omega) (by omega))
   rw [hr2] at hr
   injection hr with hv _
   subst hv
   exact Or.inr ⟨_,rfl,Nat.le_refl _⟩
theorem strCells_vals (s:ByteArray):strCells s=byteVals s.data.toList:=by simp [strCells,byteVals]
theorem LFileAt.more {w w2:World} {tg:Tags} {o p id:Nat} {f:M.Fil} {bo ao:Option Addr} {bc cap:Nat} (h:LFileAt w tg o p id f bo bc) (s:ByteArray)
  (hg:w.grownBy w2 (Value.slice bo f.bytes.length bc).ownBlock) (ho:w2.ownsRow 0 5 1 (.slice ao (f.bytes.length+s.size) cap) (f.bytes.length+s.size) (byteVals f.bytes++strCells s))
  (hw:(Value.slice ao (f.bytes.length+s.size) cap).ownBlock=(Value.slice bo f.bytes.length bc).ownBlock∨∃ g,(Value.slice ao (f.bytes.length+s.size) cap).ownBlock=some g∧w.heap.size≤g) :
  LFileAt (w2.setCell ⟨p,0,none⟩ (.slice ao (f.bytes.length+s.size) cap)) (tg.more w.heap.size o (4+2*id)) o p id { f with bytes:=f.bytes++s.data.toList } ao cap∧w2.cell? ⟨p,0,none⟩=some (.slice bo f.bytes.length bc)∧w2.frozen? ⟨p,0,none⟩=false:=by
 have hpne:∀ g,(Value.slice bo f.bytes.length bc).ownBlock=some g→g≠p:=fun g hgb e=>by
  have h1:=h.tb g hgb
  rw [e] at h1
  exact tag_ne h1 (by omega) h.tp
 have hpb:w2.heap[p]?=w.heap[p]?:=hg.block p h.top (fun e=>hpne p e.symm rfl)
 have hlen:(f.bytes++s.data.toList).length=f.bytes.length+s.size:=by rw [List.length_append,Array.length_toList];rfl
 have htb:∀ g,(Value.slice ao (f.bytes.length+s.size) cap).ownBlock=some g→(tg.more w.heap.size o (4+2*id)) g=(o,4+2*id):=fun g hgb=>by
  rcases Nat.lt_or_ge g w.heap.size with hl|hl
  ·rw [Tags.more_old hl]
   rcases hw with e|⟨g',e,h2⟩
   ·exact h.tb g (e.symm.trans hgb)
   ·rw [e] at hgb;injection hgb with hgb;omega
  ·exact Tags.more_new hl
 have k0:=(World.cell?_of_block (a:=⟨p,0,none⟩) hpb).trans h.c0
 have kf:=(World.frozen?_of_block (a:=⟨p,0,none⟩) hpb).trans (h.fr 0)
 refine ⟨⟨by rw [hlen];exact World.cell?_setCell_same _ _ _ k0,by rw [World.cell?_setCell_other _ _ _ _ (by simp)];exact (World.cell?_of_block (a:=⟨p,1,none⟩) hpb).trans h.c1,fun j=>by rw [World.frozen?_setCell];exact (World.frozen?_of_block (a:=⟨p,j,none⟩) hpb).trans (h.fr j),?_,(Tags.more_old h.top).trans h.tp,by rw [hlen];exact htb,?_⟩,k0,kf⟩
 ·rw [hlen]
  have e:byteVals (f.bytes++s.data.toList)=byteVals f.bytes++strCells s:=by rw [strCells_vals];simp [byteVals]
  rw [e]
  refine row_keep ho (fun g hgb=>heap_setCell_other w2 ⟨p,0,none⟩ g _ (fun e=>?_))
  simp at e
  have h1:=htb g hgb
  rw [e,Tags.more_old h.top] at h1
  exact tag_ne h1 (by omega) h.tp
 ·have:=hg.size
  have:=h.top
  simp
  omega
theorem LDiskAt.more {w w2:World} {tg:Tags} {o d:Nat} {D:M.Dsk} {ids ps:List Nat} (h:LDiskAt w tg o d D ids ps) {i p id:Nat} {f:M.Fil} {bo ao:Option Addr} {bc cap:Nat} (hp:ps[i]?=some p) (hid:ids[i]?=some id) (hf:D.files[i]?=some f) (hF:LFileAt w tg o p id f bo bc) (s:ByteArray)
  (hg:w.grownBy w2 (Value.slice bo f.bytes.length bc).ownBlock) (ho:w2.ownsRow 0 5 1 (.slice ao (f.bytes.length+s.size) cap) (f.bytes.length+s.size) (byteVals f.bytes++strCells s))
  (hw:(Value.slice ao (f.bytes.length+s.size) cap).ownBlock=(Value.slice bo f.bytes.length bc).ownBlock∨∃ g,(Value.slice ao (f.bytes.length+s.size) cap).ownBlock=some g∧w.heap.size≤g) :
  LEnded tg o d ⟨D.cap,D.files.modify i (fun f=>{ f with bytes:=f.bytes++s.data.toList }),D.dead,D.fuse⟩ w (w2.setCell ⟨p,0,none⟩ (.slice ao (f.bytes.length+s.size) cap)):=by
 have hb:∀ k,k<w.heap.size→tg k≠(o,3+2*id)→tg k≠(o,4+2*id)→(w2.setCell ⟨p,0,none⟩ (.slice ao (f.bytes.length+s.size) cap)).heap[k]?=w.heap[k]?:=fun k hk h1 h2=>by
  rw [heap_setCell_other w2 ⟨p,0,none⟩ k _ (fun e=>h1 (by simp at e;rw [e];exact hF.tp))]
  exact hg.block k hk (fun e=>h2 (hF.tb k e.symm))
 rw [M.modify_one _ hf]
 refine ⟨tg.more w.heap.size o (4+2*id),ids,ps,fun k hk=>Tags.more_old hk,h.turn hp hid hf (by simpa using hg.size) (fun k hk=>Tags.more_old hk) hb _ rfl (hF.more s hg ho hw).1,⟨hg.os,hg.tape,hg.output,by simpa using hg.size,fun k hk hn=>hb k hk (fun e=>hn (by rw [e])) (fun e=>hn (by rw [e]))⟩⟩
theorem LEnded.after {tg tg1:Tags} {o d:Nat} {D':M.Dsk} {w w1 w':World} (h:LEnded tg1 o d D' w1 w') (ho:Only o tg w w1) (ht:∀ k,k<w.heap.size→tg1 k=tg k):LEnded tg o d D' w w':=by
 obtain ⟨tg',ids',ps',a1,a2,a3⟩:=h
 exact ⟨tg',ids',ps',fun k hk=>(a1 k (Nat.lt_of_lt_of_le hk ho.size)).trans (ht k hk),a2,⟨a3.os.trans ho.os,a3.tape.trans ho.tape,a3.output.trans ho.output,Nat.le_trans ho.size a3.size,fun k hk hn=>(a3.block k (Nat.lt_of_lt_of_le hk ho.size) (by rw [ht k hk];exact hn)).trans (ho.block k hk hn)⟩⟩
theorem diskAppend_no (tg:Tags) (o d:Nat) (D:M.Dsk) (ids ps:List Nat) (hD:D.Fine) (nm s:ByteArray) (hno:(D.chg (appCode D nm s.size)).2≠0) (w:World) (h:LDiskAt w tg o d D ids ps) :
  Calls Tryz.prog 43 #[.pointer (some ⟨d,0,none⟩),.string nm,.string s] w fun e w'=>e=.returned (.int .i64 ((D.chg (appCode D nm s.size)).2:Nat))∧LEnded tg o d (D.chg (appCode D nm s.size)).1 w w':=by
 have HG:Hid _:=fun (_:Unit)=>mapGet tg o d D.files ps hD.sorted hD.good.few nm w h.map
 have HC:Hid _:=fun (W:World) (hW:LDiskAt W tg o d D ids ps)=>diskChange tg o d D ids ps (appCode D nm s.size) hD.fuse W hW
 have HA:Hid _:=fun (W:World) (hW:LDiskAt W tg o d D ids ps)=>diskAppending tg o d D ids ps hD nm s.size W hW
 have HD:Hid (LDiskAt w tg o d D ids ps):=h
 obtain ⟨⟨E,c⟩,hE⟩:∃ p,D.chg (appCode D nm s.size)=p:=⟨_,rfl⟩
 rw [hE] at HC hno ⊢
 simp only at HC hno ⊢
 have hcb:((c:Int) == 0)=false:=by rw [beq_eq_false_iff_ne];omega
 obtain ⟨ac,hac⟩:∃ ac,appCode D nm s.size=ac:=⟨_,rfl⟩
 rw [hac] at HC HA
 obtain ⟨pv,hpv⟩:∃ pv,ptrAt ps (M.place D.files nm)=pv:=⟨_,rfl⟩
 rw [hpv] at HG
 obtain ⟨pb,hpb⟩:∃ pb,(M.place D.files nm).isSome=pb:=⟨_,rfl⟩
 rw [hpb] at HG HA
 clear h hE hno hac hpv hpb
 go_enter Tryz.func43,Tryz.ntmps43
 go_wp2_with fail
 refine (HG.out ()).mono ?_
 rintro e w1 ⟨rfl,q1⟩
 have HA1:Hid _:=fun (_:Unit)=>HA.out w1 (HD.out.kept q1)
 clear HG HA
 go_wp2_with fail
 refine (HA1.out ()).mono ?_
 rintro e w2 ⟨rfl,q2⟩
 have HC1:Hid _:=fun (_:Unit)=>HC.out w2 (HD.out.kept (q1.trans q2))
 clear HA1 HC
 go_wp2_with fail
 refine (HC1.out ()).mono ?_
 rintro e w3 ⟨rfl,hL,hO⟩
 have HEn:Hid (LEnded tg o d E w w3):=LEnded.same hL ((Only.of_q (q1.trans q2)).trans hO)
 clear hL hO HC1
 go_wp2_with fail
 go_ret
 exact ⟨rfl,HEn.out⟩
theorem diskAppend_there (tg:Tags) (o d:Nat) (D:M.Dsk) (ids ps:List Nat) (hD:D.Fine) (nm s:ByteArray) (i:Nat) (E:M.Dsk) (hp:M.place D.files nm=some i) (hE:D.chg (appCode D nm s.size)=(E,0)) (hsz:s.size≤1048576) (w:World) (h:LDiskAt w tg o d D ids ps) :
  Calls Tryz.prog 43 #[.pointer (some ⟨d,0,none⟩),.string nm,.string s] w fun e w'=>e=.returned (.int .i64 0)∧LEnded tg o d ⟨E.cap,E.files.modify i (fun f=>{ f with bytes:=f.bytes++s.data.toList }),E.dead,E.fuse⟩ w w':=by
 have HG:Hid _:=fun (_:Unit)=>mapGet tg o d D.files ps hD.sorted hD.good.few nm w h.map
 have HC:Hid _:=fun (W:World) (hW:LDiskAt W tg o d D ids ps)=>diskChange tg o d D ids ps (appCode D nm s.size) hD.fuse W hW
 have HA:Hid _:=fun (W:World) (hW:LDiskAt W tg o d D ids ps)=>diskAppending tg o d D ids ps hD nm s.size W hW
 have HD:Hid (LDiskAt w tg o d D ids ps):=h
 obtain ⟨f,p,id,e1,e2,e3,e4,_⟩:=place_ptr h hp
 have hfe:E.files=D.files:=by have:=chg_files D (appCode D nm s.size);rw [hE] at this;exact this
 rw [hE] at HC
 simp only at HC
 obtain ⟨ac,hac⟩:∃ ac,appCode D nm s.size=ac:=⟨_,rfl⟩
 rw [hac] at HC HA
 rw [hp,e4] at HG
 rw [hp] at HA
 have HP:Hid (ps[i]?=some p∧ids[i]?=some id∧E.files[i]?=some f):=⟨e2,e3,by rw [hfe];exact e1⟩
 have hfl:f.bytes.length≤1048576:=hD.good.small (List.mem_of_getElem? e1)
 obtain ⟨i0,hi,hz0,hz1,hz2⟩:=info_parts infoU8
 clear h hE hac hp hfe e1 e2 e3 e4
 go_enter Tryz.func43,Tryz.ntmps43
 go_wp2_with fail
 refine (HG.out ()).mono ?_
 rintro e w1 ⟨rfl,q1⟩
 have HA1:Hid _:=fun (_:Unit)=>HA.out w1 (HD.out.kept q1)
 simp only [Option.isSome_some]
 clear HG HA
 go_wp2_with fail
 refine (HA1.out ()).mono ?_
 rintro e w2 ⟨rfl,q2⟩
 have HC1:Hid _:=fun (_:Unit)=>HC.out w2 (HD.out.kept (q1.trans q2))
 clear HA1 HC
 go_wp2_with fail
 refine (HC1.out ()).mono ?_
 rintro e w3 ⟨rfl,hL,hO⟩
 obtain ⟨bo,bc,hF⟩:=hL.file i p id f HP.out.1 HP.out.2.1 HP.out.2.2
 have c0:=hF.c0
 obtain ⟨v',w4,hrun,r1,r2,r3⟩:=append_text (P:=Tryz.prog) w3 88 9 88 5 i0 Tryz.underlying88 Tryz.underlying9 hi hz0 hz1 hz2 _ _ _ hF.own s (by simp [maxLen];omega) (by omega)
 obtain ⟨ao,cap,rfl⟩:=own_form r1
 obtain ⟨_,k0,kf⟩:=hF.more s r2 r1 r3
 have HEn:Hid _:=(hL.more HP.out.1 HP.out.2.1 HP.out.2.2 hF s r2 r1 r3).after ((Only.of_q (q1.trans q2)).trans hO) (fun _ _=>rfl)
 clear hL hO HC1 hF r1 r2 r3
 generalize f.bytes.length+s.size=n2 at *
 generalize f.bytes.length=n1 at *
 go_wp2_with (at_builtin;refine Lib.wpList_append_run _ rfl _ _ _ _ rfl _ _ rfl rfl _ _ hrun ?_)
 go_ret
 exact ⟨rfl,HEn.out⟩
theorem lfile_new (w:World) (tg:Tags) (o id:Nat) (nm:ByteArray) (t:TypeId) :
  LFileAt (w.alloc (.cells #[.slice none 0 0,.int .i64 0] t)) (tg.more w.heap.size o (3+2*id)) o w.heap.size id ⟨nm,[],0⟩ none 0:=by
 refine ⟨by simp,by simp,fun j=>by simp,World.ownsRow_nil _ _ _ _,Tags.more_new (Nat.le_refl _),fun g hg=>by simp [Value.ownBlock] at hg,by simp⟩
theorem put_modify {fs:List M.Fil} {nm:ByteArray} (hp:M.place fs nm=none) (s:List UInt8):(M.put fs ⟨nm,[],0⟩).modify (M.lowAt fs nm) (fun f=>{ f with bytes:=f.bytes++s })=M.put fs ⟨nm,s,0⟩∧(M.put fs ⟨nm,[],0⟩)[M.lowAt fs nm]?=some ⟨nm,[],0⟩:=by
 have h1:M.put fs ⟨nm,[],0⟩=insAt fs (M.lowAt fs nm) ⟨nm,[],0⟩:=(M.put_low (f:=⟨nm,[],0⟩) hp).1
 have h2:M.put fs ⟨nm,s,0⟩=insAt fs (M.lowAt fs nm) ⟨nm,s,0⟩:=(M.put_low (f:=⟨nm,s,0⟩) hp).1
 have hle:=M.lowAt_le fs nm
 rw [h1,h2]
 refine ⟨?_,insAt_self hle _⟩
 rw [M.modify_one _ (insAt_self hle _),insAt_set hle]
 rfl
theorem diskAppend_new (tg:Tags) (o d:Nat) (D:M.Dsk) (ids ps:List Nat) (hD:D.Fine) (nm s:ByteArray) (E:M.Dsk) (hp:M.place D.files nm=none) (hE:D.chg (appCode D nm s.size)=(E,0)) (hsz:s.size≤1048576) (hok:M.okName nm=true) (w:World) (h:LDiskAt w tg o d D ids ps) :
  Calls Tryz.prog 43 #[.pointer (some ⟨d,0,none⟩),.string nm,.string s] w fun e w'=>e=.returned (.int .i64 0)∧LEnded tg o d ⟨E.cap,M.put E.files ⟨nm,s.data.toList,0⟩,E.dead,E.fuse⟩ w w':=by
 have HG:Hid _:=fun (_:Unit)=>mapGet tg o d D.files ps hD.sorted hD.good.few nm w h.map
 have HC:Hid _:=fun (W:World) (hW:LDiskAt W tg o d D ids ps)=>diskChange tg o d D ids ps (appCode D nm s.size) hD.fuse W hW
 have HA:Hid _:=fun (W:World) (hW:LDiskAt W tg o d D ids ps)=>diskAppending tg o d D ids ps hD nm s.size W hW
 have HD:Hid (LDiskAt w tg o d D ids ps):=h
 have hfe:E.files=D.files:=by have:=chg_files D (appCode D nm s.size);rw [hE] at this;exact this
 have hEF:E.Fine:=by have:=hD.chg (appCode D nm s.size);rw [hE] at this;exact this
 have hpE:M.place E.files nm=none:=by rw [hfe];exact hp
 rw [hE] at HC
 simp only at HC
 obtain ⟨ac,hac⟩:∃ ac,appCode D nm s.size=ac:=⟨_,rfl⟩
 rw [hac] at HC HA
 rw [hp] at HG HA
 have hlim:nm.size≤281474976710656:=by
  unfold M.okName at hok
  simp at hok
  omega
 obtain ⟨i0,hi,hz0,hz1,hz2⟩:=info_parts infoU8
 obtain ⟨id,hidn⟩:=fresh_id ids
 have HX:Hid (E.Fine∧M.place E.files nm=none∧id∉ids):=⟨hEF,hpE,hidn⟩
 clear h hE hac hp hfe hEF hpE hok hidn
 go_enter Tryz.func43,Tryz.ntmps43
 go_wp2_with fail
 refine (HG.out ()).mono ?_
 rintro e w1 ⟨rfl,q1⟩
 have HA1:Hid _:=fun (_:Unit)=>HA.out w1 (HD.out.kept q1)
 simp only [ptrAt,Option.isSome_none]
 clear HG HA
 go_wp2_with fail
 refine (HA1.out ()).mono ?_
 rintro e w2 ⟨rfl,q2⟩
 have HC1:Hid _:=fun (_:Unit)=>HC.out w2 (HD.out.kept (q1.trans q2))
 clear HA1 HC
 go_wp2_with fail
 refine (HC1.out ()).mono ?_
 rintro e w3 ⟨rfl,hL,hO⟩
 have HL:Hid (LDiskAt w3 tg o d E ids ps):=hL
 have HO:Hid (Only o tg w w3):=(Only.of_q (q1.trans q2)).trans hO
 have HPut:Hid (∀ W,Q (w3.alloc (.cells #[.slice none 0 0,.int .i64 0] 90)) W→Calls Tryz.prog 72 #[.pointer (some ⟨d,1,none⟩),.string nm,.pointer (some ⟨w3.heap.size,0,none⟩)] W fun e w'=>e=.returned (.tuple #[]) ∧
   ∃ tg' ids' ps',(∀ k,k<w.heap.size→tg' k=tg k)∧LDiskAt w' tg' o d ⟨E.cap,M.put E.files ⟨nm,[],0⟩,E.dead,E.fuse⟩ ids' ps'∧Only o tg w w'∧ids'[M.lowAt E.files nm]?=some id∧ps'[M.lowAt E.files nm]?=some w3.heap.size):=fun W hq=>by
  have hN:LDiskAt (w3.alloc (.cells #[.slice none 0 0,.int .i64 0] 90)) (tg.more w3.heap.size o (3+2*id)) o d E ids ps:=HL.out.keep (by simp) (fun k hk=>Tags.more_old hk) (fun k hk _=>((Below.refl _ w3).alloc (Nat.le_refl _) _).block k hk)
  have hW:=hN.kept hq
  have hFN:=lfile_new w3 tg o id nm 90
  have hFW:=hFN.keep hq.below.size (tg':=tg.more w3.heap.size o (3+2*id)) (fun _ _=>rfl) (fun k hk _=>hq.below.block k hk)
  refine (mapPut_new (tg.more w3.heap.size o (3+2*id)) o d E.files ps HX.out.1.sorted HX.out.1.good.few nm w3.heap.size HX.out.2.1 W hW.map).mono ?_
  rintro e w' ⟨rfl,hn⟩
  obtain ⟨tg',a1,a2,a3⟩:=hW.putNew hFW HX.out.2.2 HX.out.2.1 hn
  have hle:=M.lowAt_le E.files nm
  have hsW:w3.heap.size≤W.heap.size:=by have:=hq.below.size;simp at this;omega
  have hs1:w.heap.size≤W.heap.size:=Nat.le_trans HO.out.size hsW
  have hblk:∀ k,k<w3.heap.size→W.heap[k]?=w3.heap[k]?:=fun k hk=>(hq.below.block k (by simp;omega)).trans (((Below.refl _ w3).alloc (Nat.le_refl _) _).block k hk)
  refine ⟨rfl,tg',_,_,fun k hk=>(a1 k (Nat.lt_of_lt_of_le hk hs1)).trans (Tags.more_old (Nat.lt_of_lt_of_le hk HO.out.size)),a2,⟨a3.os.trans (hq.below.os.trans HO.out.os),a3.tape.trans (hq.below.tape.trans HO.out.tape),a3.output.trans (hq.below.output.trans HO.out.output),Nat.le_trans hs1 a3.size,fun k hk hn=>?_⟩,insAt_self (show M.lowAt E.files nm≤ids.length by rw [HL.out.lenI];exact hle) _,insAt_self (show M.lowAt E.files nm≤ps.length by have:=HL.out.map.len;simp at this;omega) _⟩
  rw [a3.only.block k (Nat.lt_of_lt_of_le hk hs1) (by rw [Tags.more_old (Nat.lt_of_lt_of_le hk HO.out.size)];exact hn),hblk k (Nat.lt_of_lt_of_le hk HO.out.size)]
  exact HO.out.block k hk hn
 have HPM:Hid _:=put_modify HX.out.2.1 s.data.toList
 clear HC1 hL hO HL HO HX HD
 go_upto_region 7 with fail
 go_region_held3 (fun _=>True) (exact trivial)
  (first
   | (go_at_call 47;refine (clone_any nm _ hlim).mono ?_;rintro e w6 ⟨rfl,b6⟩;have hS6:True:=trivial)
   | (go_at_call 72;refine (HPut.out w6 (((Q.refl _).drew).trans ⟨b6⟩)).mono ?_;rintro e w7 ⟨rfl,hEn⟩;have HEn:Hid _:=hEn;clear hEn))
 obtain ⟨tg7,ids7,ps7,y1,y2,y3,y4,y5⟩:=HEn.out
 obtain ⟨bo,bc,hF⟩:=y2.file _ _ _ _ y5 y4 HPM.out.2
 have c0:=hF.c0
 obtain ⟨v',w8,hrun,r1,r2,r3⟩:=append_text (P:=Tryz.prog) w7 88 9 88 5 i0 Tryz.underlying88 Tryz.underlying9 hi hz0 hz1 hz2 _ _ _ hF.own s (by show 0+s.size≤maxLen;simp [maxLen];omega) (by show 0+s.size≤140737488355328;omega)
 obtain ⟨ao,cap,rfl⟩:=own_form r1
 obtain ⟨_,k0,kf⟩:=hF.more s r2 r1 r3
 have HEn2:Hid (LEnded tg o d ⟨E.cap,M.put E.files ⟨nm,s.data.toList,0⟩,E.dead,E.fuse⟩ w (w8.setCell ⟨w3.heap.size,0,none⟩ (.slice ao (0+s.size) cap))):=by
  have:=(y2.more y5 y4 HPM.out.2 hF s r2 r1 r3).after y3 y1
  simp only [HPM.out.1] at this
  exact this
 simp only [List.length_nil,Nat.zero_add] at c0 hrun k0 HEn2
 clear HEn y1 y2 y3 y4 y5 hF r1 r2 r3 HPM HPut
 go_wp2_with (at_builtin;refine Lib.wpList_append_run _ rfl _ _ _ _ rfl _ _ rfl rfl _ _ hrun ?_)
 go_ret
 exact ⟨rfl,HEn2.out⟩
theorem diskAppend (tg:Tags) (o d:Nat) (D:M.Dsk) (ids ps:List Nat) (hD:D.Fine) (nm s:ByteArray) (w:World) (h:LDiskAt w tg o d D ids ps) :
  Calls Tryz.prog 43 #[.pointer (some ⟨d,0,none⟩),.string nm,.string s] w fun e w'=>e=.returned (.int .i64 ((D.append nm s.data.toList).2:Nat))∧LEnded tg o d (D.append nm s.data.toList).1 w w':=by
 have hsl:s.data.toList.length=s.size:=by rw [Array.length_toList];rfl
 rw [append_chg,hsl]
 by_cases hc:(D.chg (appCode D nm s.size)).2=0
 ·obtain ⟨⟨E,c⟩,hE⟩:∃ p,D.chg (appCode D nm s.size)=p:=⟨_,rfl⟩
  have hz:=(chg_zero hc).1
  rw [hE] at hc ⊢
  simp only at hc
  subst hc
  have hfe:E.files=D.files:=by have:=chg_files D (appCode D nm s.size);rw [hE] at this;exact this
  have hok:M.okName nm=true:=by
   cases hx:M.okName nm
   ·unfold appCode at hz;rw [if_pos hx] at hz;simp at hz
   ·rfl
  have hroom:M.total D.files+s.size≤D.cap:=by
   unfold appCode at hz
   rw [hok] at hz
   simp only [Bool.true_eq_false,if_false] at hz
   split at hz
   ·simp at hz
   ·rename_i hn
    rcases Nat.lt_or_ge D.cap (M.total D.files+s.size) with e|e
    ·exact absurd (Or.inl e) hn
    ·exact e
  have hsz:s.size≤1048576:=by have:=hD.good.cap;omega
  simp only [hfe]
  cases hp:M.place D.files nm with
  | some i =>
   have:=diskAppend_there tg o d D ids ps hD nm s i E hp hE hsz w h
   rw [hfe] at this
   exact this
  | none =>
   have:=diskAppend_new tg o d D ids ps hD nm s E hp hE hsz hok w h
   rw [hfe] at this
   exact this
 ·have:=diskAppend_no tg o d D ids ps hD nm s hc w h
  obtain ⟨⟨E,c⟩,hE⟩:∃ p,D.chg (appCode D nm s.size)=p:=⟨_,rfl⟩
  rw [hE] at this hc ⊢
  cases c with
  | zero=>exact absurd rfl hc
  | succ c=>exact this
end Go.Proofs.YtekdenkllipehabGreatDoor
