import Derived.Test.YtekdenkllipehabGreatDoorP21
import Derived.Test.YtekdenkllipehabGreatDoorP40
import Derived.Test.YtekdenkllipehabGreatDoorP41
import Derived.Lib.AppendStr
set_option maxRecDepth 100000
set_option maxHeartbeats 8000000
namespace Go.Proofs.YtekdenkllipehabGreatDoor
open Go.RowKit
variable {D:M.Dsk} {bc d id k o p:Nat} {bo:Option Addr} {f:M.Fil} {ids ps:List Nat} {tg:Tags} {w w':World}
def zGN (w:World) (D:M.Dsk) (e:Ending) (w':World):Prop:=
 match D.read yV with
 | (_,7)=>e=.returned (.tuple #[Yh (-1) ⟨#[]⟩ none 0 0,.int .i64 0])
 | (T,0)=>zBH w (S.readFile T) e w'
 | (_,c)=>e=.returned (.tuple #[zE2,.int .i64 (c:Nat)])
theorem zLk (D:M.Dsk) (nm:ByteArray):(D.read nm).2=0∨(D.read nm).2=7∨(D.read nm).2=10:=by
 unfold M.Dsk.read;split
 ·exact Or.inr (Or.inr rfl)
 ·split
  ·exact Or.inr (Or.inl rfl)
  ·exact Or.inl rfl
theorem zEu (hD:D.yD) (nm:ByteArray):(D.read nm).1.length≤1048576:=by
 unfold M.Dsk.read;split
 ·simp
 ·split
  ·simp
  ·rename_i i hi;obtain ⟨f,hf,_,_⟩:=M.yo hi;simp only [hf,zRM,zQo];exact hD.good.small (zQm hf)
theorem zBV {T A t:List UInt8} {n:Int} (h:S.zAR T n=some (A,t)):A.length≤T.length∧t.length≤T.length:=by
 unfold S.zAR at h;split at h
 ·cases h
 ·split at h
  ·injection h with h;injection h with h1 h2;subst h1 h2;exact ⟨by simp,by simp;omega⟩
  ·cases h
theorem zEh (w:World) (d:Nat) (x:ByteArray) (hR:∀ W,Q w W→Calls Tryz.prog 42 #[.pointer (some ⟨d,0,none⟩),.string yV] W fun e w'=>e=.returned (.tuple #[.string x,.int .i64 7])∧Q W w') :
  Calls Tryz.prog 62 #[.pointer (some ⟨d,0,none⟩)] w fun e w'=>e=.returned (.tuple #[Yh (-1) ⟨#[]⟩ none 0 0,.int .i64 0])∧Q w w':=by
 have HR:Hid _:=hR;clear hR;unfold yV at HR;unfold Yh;go_enter Tryz.func62,Tryz.ntmps62;go_wp2_with fail;refine (HR.out _ ((Q.refl w).alloc _ _)).mono ?_;rintro e w1 ⟨rfl,q1⟩;have hV:=(zI w [.int .i64 0,.string ⟨#[]⟩,.slice none 0 0] 124).kept q1;have b0:=hV.cell 0 rfl;have b1:=hV.cell 1 rfl;have b2:=hV.cell 2 rfl;have d0:=hV.free 0 rfl;have d1:=hV.free 1 rfl;have d2:=hV.free 2 rfl;have hset:=((hV.set 0 (.int .i64 (-1))).set 1 (.string ⟨#[]⟩)).set 2 (.slice none 0 0);have k0:=hset.cell 0 rfl;have k1:=hset.cell 1 rfl;have k2:=hset.cell 2 rfl;have hq:Q w (((w1.setCell ⟨w.heap.size,0,none⟩ (.int .i64 (-1))).setCell ⟨w.heap.size,1,none⟩ (.string ⟨#[]⟩)).setCell ⟨w.heap.size,2,none⟩ (.slice none 0 0)):=(((((Q.refl w).alloc _ _).trans q1).setCell (zQf _) _).setCell (zQf _) _).setCell (zQf _) _;clear hset hV q1;go_wp2_with fail;refine bodyPost_ret (v:=.tuple #[.agg #[.int .i64 (-1),.string ⟨#[]⟩,.slice none 0 0],.int .i64 0]) (by simp [results,Tryz.results62,go_sem,k0,k1,k2]) rfl ?_;exact ⟨rfl,hq⟩
theorem zEi (w:World) (d:Nat) (x:ByteArray) (hR:∀ W,Q w W→Calls Tryz.prog 42 #[.pointer (some ⟨d,0,none⟩),.string yV] W fun e w'=>e=.returned (.tuple #[.string x,.int .i64 10])∧Q W w') :
  Calls Tryz.prog 62 #[.pointer (some ⟨d,0,none⟩)] w fun e w'=>e=.returned (.tuple #[zE2,.int .i64 10])∧Q w w':=by
 have HR:Hid _:=hR;clear hR;unfold yV at HR;unfold zE2;go_enter Tryz.func62,Tryz.ntmps62;go_wp2_with fail;refine (HR.out _ ((Q.refl w).alloc _ _)).mono ?_;rintro e w1 ⟨rfl,q1⟩;have hV:=(zI w [.int .i64 0,.string ⟨#[]⟩,.slice none 0 0] 124).kept q1;have b0:=hV.cell 0 rfl;have b1:=hV.cell 1 rfl;have b2:=hV.cell 2 rfl;have d0:=hV.free 0 rfl;have d1:=hV.free 1 rfl;have d2:=hV.free 2 rfl;have hset:=((hV.set 0 (.int .i64 0)).set 1 (.string ⟨#[]⟩)).set 2 (.slice none 0 0);have k0:=hset.cell 0 rfl;have k1:=hset.cell 1 rfl;have k2:=hset.cell 2 rfl;have hq:Q w (((w1.setCell ⟨w.heap.size,0,none⟩ (.int .i64 0)).setCell ⟨w.heap.size,1,none⟩ (.string ⟨#[]⟩)).setCell ⟨w.heap.size,2,none⟩ (.slice none 0 0)):=(((((Q.refl w).alloc _ _).trans q1).setCell (zQf _) _).setCell (zQf _) _).setCell (zQf _) _;clear hset hV q1;go_wp2_with fail;refine bodyPost_ret (v:=.tuple #[.agg #[.int .i64 0,.string ⟨#[]⟩,.slice none 0 0],.int .i64 10]) (by simp [results,Tryz.results62,go_sem,k0,k1,k2]) rfl ?_;exact ⟨rfl,hq⟩
theorem zEg (w:World) (d:Nat) (x:ByteArray) (hx:x.size≤1048576) (hT:Tab w) (hR:∀ W,Q w W→Calls Tryz.prog 42 #[.pointer (some ⟨d,0,none⟩),.string yV] W fun e w'=>e=.returned (.tuple #[.string x,.int .i64 0])∧Q W w') :
  Calls Tryz.prog 62 #[.pointer (some ⟨d,0,none⟩)] w fun e w'=>zBH w (S.readFile x.data.toList) e w'∧Q w w':=by
 have hl:x.data.toList.length=x.size:=by simp
 have HT:Hid (∀ W,Q w W→Tab W):=fun W q=>yE hT q;have HR:Hid _:=hR;have C1:Hid _:=fun W (q:Q w W)=>zMV x hx 8 W (HT.out W q);clear hR;unfold yV at HR;have HE:Hid (∀ v e w',(S.readFile x.data.toList=none)→e=.returned (.tuple #[.agg #[.int .i64 0,.string ⟨#[]⟩,.slice none 0 0],.int .i64 v])→v=3→zBH w (S.readFile x.data.toList) e w'):=fun v e w' h1 h2 h3=>by
  rw [h1,h2,h3];exact rfl
 cases hc:S.zAR x.data.toList 8 with
 | none =>
  have hE:S.readFile x.data.toList=none:=by unfold S.readFile;rw [hc]
  rw [hc] at C1;have hE2:=HE.out 3 _ w hE rfl rfl;rw [hE];unfold zBi at C1;unfold zBH zE2;clear hE2 HE hE hc HT;go_enter Tryz.func62,Tryz.ntmps62;go_wp2_with fail;refine (HR.out _ ((Q.refl w).alloc _ _)).mono ?_;rintro e w0 ⟨rfl,q0⟩;have q0':=((Q.refl w).alloc _ _).trans q0;go_wp2_with fail;refine (C1.out _ q0').mono ?_;rintro e w1 ⟨rfl,q1⟩;have hV:=((zI w [.int .i64 0,.string ⟨#[]⟩,.slice none 0 0] 124).kept q0).kept q1;have b0:=hV.cell 0 rfl;have b1:=hV.cell 1 rfl;have b2:=hV.cell 2 rfl;have d0:=hV.free 0 rfl;have d1:=hV.free 1 rfl;have d2:=hV.free 2 rfl;have hset:=((hV.set 0 (.int .i64 0)).set 1 (.string ⟨#[]⟩)).set 2 (.slice none 0 0);have k0:=hset.cell 0 rfl;have k1:=hset.cell 1 rfl;have k2:=hset.cell 2 rfl;have hq:Q w (((w1.setCell ⟨w.heap.size,0,none⟩ (.int .i64 0)).setCell ⟨w.heap.size,1,none⟩ (.string ⟨#[]⟩)).setCell ⟨w.heap.size,2,none⟩ (.slice none 0 0)):=(((q0'.trans q1).setCell (zQf _) _).setCell (zQf _) _).setCell (zQf _) _;clear hset hV q1 q0 q0' C1 HR;go_wp2_with fail;refine bodyPost_ret (v:=.tuple #[.agg #[.int .i64 0,.string ⟨#[]⟩,.slice none 0 0],.int .i64 3]) (by simp [results,Tryz.results62,go_sem,k0,k1,k2]) rfl ?_;exact ⟨rfl,hq⟩
 | some p =>
  obtain ⟨A,foot⟩:=p;have hln:=zBV hc;rw [hl] at hln;rw [hc] at C1;unfold zBi at C1;obtain ⟨Ab,hAb⟩:∃ Ab:ByteArray,Ab=⟨A.toArray⟩:=⟨_,rfl⟩;obtain ⟨fo,hfo⟩:∃ fo:ByteArray,fo=⟨foot.toArray⟩:=⟨_,rfl⟩;have hAd:Ab.data.toList=A:=by rw [hAb]
  have hfd:fo.data.toList=foot:=by rw [hfo]
  have hAs:Ab.size≤1048576:=by rw [hAb];show A.length≤_;omega
  have hfs:fo.size≤1048576:=by rw [hfo];show foot.length≤_;omega
  simp only [←hAb,←hfo] at C1;have NU:Hid _:=fun (C:Nat) W=>rdNum fo (by omega) 0 C 72057594037927935 false W;have HRd:Hid _:=fun W=>zLo fo W;have nle:=ZE (T:=foot) (most:=72057594037927935) (a:=0) (zQn _);have hE:S.readFile x.data.toList=match S.zAR A (((yJ foot 72057594037927935 0).1:Int)-2097152) with | none=>none | some (blocks,idx)=>S.Ym blocks idx:=by unfold S.readFile;rw [hc];rfl
  rw [hfd] at NU;obtain ⟨⟨v,a1⟩,hv⟩:∃ p,p=yJ foot 72057594037927935 0:=⟨_,rfl⟩;rw [←hv] at NU nle hE;simp only at nle;have C2:Hid _:=fun W (q:Q w W)=>zMV Ab hAs ((v:Int)-2097152) W (HT.out W q);rw [hAd] at C2;clear hv hc hAb hfo
  cases hc2:S.zAR A ((v:Int)-2097152) with
  | none =>
   rw [hc2] at hE C2;simp only at hE;rw [hE];unfold zBi at C2;unfold zBH zE2;clear HE hE hc2 HT;go_enter Tryz.func62,Tryz.ntmps62;go_wp2_with fail;refine (HR.out _ ((Q.refl w).alloc _ _)).mono ?_;rintro e w0 ⟨rfl,q0⟩;have hV0:=(zI w [.int .i64 0,.string ⟨#[]⟩,.slice none 0 0] 124).kept q0;have q0':=((Q.refl w).alloc _ _).trans q0;clear q0;go_wp2_with fail;refine (C1.out _ q0').mono ?_;rintro e w1 ⟨rfl,q1⟩;have hV1:=hV0.kept q1;have q1':=q0'.trans q1;clear q1 q0' hV0 C1 HR;go_wp2_with fail;refine (HRd.out _).mono ?_;rintro e w2 ⟨rfl,hA2,q2⟩;have hV2:=hV1.kept q2;have hs1:=hV1.1;go_wp2_with fail;refine (NU.out _ _ hA2).mono ?_;rintro e w3 ⟨rfl,hA3,g3⟩;have hV3:=hV2.grown g3 (by simp;omega);have q3':Q w w3:=⟨(q1'.below.trans (q2.below.mono q1'.below.size)).grown g3 (zQq q1'.below.size q2.below.size) (fun k hk=>by injection hk;omega)⟩;clear hA2 hA3 g3 q2 hV2 hV1 NU HRd q1';go_wp2_with fail;refine (C2.out _ q3').mono ?_;rintro e w4 ⟨rfl,q4⟩;have hV:=hV3.kept q4;have q4':=q3'.trans q4;clear hV3 q4 q3' C2;have b0:=hV.cell 0 rfl;have b1:=hV.cell 1 rfl;have b2:=hV.cell 2 rfl;have d0:=hV.free 0 rfl;have d1:=hV.free 1 rfl;have d2:=hV.free 2 rfl;have hset:=((hV.set 0 (.int .i64 0)).set 1 (.string ⟨#[]⟩)).set 2 (.slice none 0 0);have k0:=hset.cell 0 rfl;have k1:=hset.cell 1 rfl;have k2:=hset.cell 2 rfl;have hq:Q w (((w4.setCell ⟨w.heap.size,0,none⟩ (.int .i64 0)).setCell ⟨w.heap.size,1,none⟩ (.string ⟨#[]⟩)).setCell ⟨w.heap.size,2,none⟩ (.slice none 0 0)):=((q4'.setCell (zQf _) _).setCell (zQf _) _).setCell (zQf _) _;clear hset hV q4';go_wp2_with fail;refine bodyPost_ret (v:=.tuple #[.agg #[.int .i64 0,.string ⟨#[]⟩,.slice none 0 0],.int .i64 3]) (by simp [results,Tryz.results62,go_sem,k0,k1,k2]) rfl ?_;exact ⟨rfl,hq⟩
  | some p2 =>
   obtain ⟨bl,idx⟩:=p2;have hln2:=zBV hc2;rw [hc2] at hE C2;simp only at hE;rw [hE];unfold zBi at C2;obtain ⟨Bb,hBb⟩:∃ Bb:ByteArray,Bb=⟨bl.toArray⟩:=⟨_,rfl⟩;obtain ⟨Ib,hIb⟩:∃ Ib:ByteArray,Ib=⟨idx.toArray⟩:=⟨_,rfl⟩;have hBd:Bb.data.toList=bl:=by rw [hBb]
   have hId:Ib.data.toList=idx:=by rw [hIb]
   have hBs:Bb.size≤1048576:=by rw [hBb];show bl.length≤_;omega
   have hIs:Ib.size≤1048576:=by rw [hIb];show idx.length≤_;omega
   simp only [←hBb,←hIb] at C2;have RI:Hid _:=fun W=>zFi Bb Ib hBs hIs W;rw [hBd,hId] at RI;clear HE hE hc2 HT hBb hIb;go_enter Tryz.func62,Tryz.ntmps62;go_wp2_with fail;refine (HR.out _ ((Q.refl w).alloc _ _)).mono ?_;rintro e w0 ⟨rfl,q0⟩;have hV0:=(zI w [.int .i64 0,.string ⟨#[]⟩,.slice none 0 0] 124).kept q0;have q0':=((Q.refl w).alloc _ _).trans q0;clear q0;go_wp2_with fail;refine (C1.out _ q0').mono ?_;rintro e w1 ⟨rfl,q1⟩;have hV1:=hV0.kept q1;have q1':=q0'.trans q1;clear q1 q0' hV0 C1 HR;go_wp2_with fail;refine (HRd.out _).mono ?_;rintro e w2 ⟨rfl,hA2,q2⟩;have hV2:=hV1.kept q2;have hs1:=hV1.1;go_wp2_with fail;refine (NU.out _ _ hA2).mono ?_;rintro e w3 ⟨rfl,hA3,g3⟩;have hV3:=hV2.grown g3 (by simp;omega);have q3':Q w w3:=⟨(q1'.below.trans (q2.below.mono q1'.below.size)).grown g3 (zQq q1'.below.size q2.below.size) (fun k hk=>by injection hk;omega)⟩;clear hA2 hA3 g3 q2 hV2 hV1 NU HRd q1';go_wp2_with fail;refine (C2.out _ q3').mono ?_;rintro e w4 ⟨rfl,q4⟩;have hV:=hV3.kept q4;have q4':=q3'.trans q4;clear hV3 q4 q3' C2;go_wp2_with fail;refine (RI.out _).mono ?_;rintro e w5 ⟨hL,q5⟩;have hV5:=hV.kept q5;have HS4:Hid (w.heap.size<w4.heap.size):=hV.1;have q5':=q4'.trans q5;clear hV q4' q5 RI;unfold zBH at hL
   cases hr:S.Ym bl idx with
   | none =>
    rw [hr] at hL;simp only at hL;subst hL;have HRr:Hid _:=hr;clear hr;unfold zE2;have b0:=hV5.cell 0 rfl;have b1:=hV5.cell 1 rfl;have b2:=hV5.cell 2 rfl;have d0:=hV5.free 0 rfl;have d1:=hV5.free 1 rfl;have d2:=hV5.free 2 rfl;have hset:=((hV5.set 0 (.int .i64 0)).set 1 (.string ⟨#[]⟩)).set 2 (.slice none 0 0);have k0:=hset.cell 0 rfl;have k1:=hset.cell 1 rfl;have k2:=hset.cell 2 rfl;have hq:Q w (((w5.setCell ⟨w.heap.size,0,none⟩ (.int .i64 0)).setCell ⟨w.heap.size,1,none⟩ (.string ⟨#[]⟩)).setCell ⟨w.heap.size,2,none⟩ (.slice none 0 0)):=((q5'.setCell (zQf _) _).setCell (zQf _) _).setCell (zQf _) _;clear hset hV5 q5';go_wp2_with fail;refine bodyPost_ret (v:=.tuple #[.agg #[.int .i64 0,.string ⟨#[]⟩,.slice none 0 0],.int .i64 3]) (by simp [results,Tryz.results62,go_sem,k0,k1,k2]) rfl ?_;exact ⟨by rw [HRr.out];exact rfl,hq⟩
   | some L =>
    rw [hr] at hL;obtain ⟨ao,cap,rfl,hEn,hEl⟩:=hL;have hq4:=HS4.out;have HRr:Hid _:=hr;have HEl:Hid (∀ a,ao=some a→w.heap.size≤a.block):=fun a ha=>by have:=hEl a ha;omega
    clear hr;unfold Yh;have b0:=hV5.cell 0 rfl;have b1:=hV5.cell 1 rfl;have b2:=hV5.cell 2 rfl;have d0:=hV5.free 0 rfl;have d1:=hV5.free 1 rfl;have d2:=hV5.free 2 rfl;have hset:=((hV5.set 0 (.int .i64 L.wm)).set 1 (.string ⟨L.blocks.toArray⟩)).set 2 (.slice ao L.ents.length cap);have k0:=hset.cell 0 rfl;have k1:=hset.cell 1 rfl;have k2:=hset.cell 2 rfl;have hq:Q w (((w5.setCell ⟨w.heap.size,0,none⟩ (.int .i64 L.wm)).setCell ⟨w.heap.size,1,none⟩ (.string ⟨L.blocks.toArray⟩)).setCell ⟨w.heap.size,2,none⟩ (.slice ao L.ents.length cap)):=((q5'.setCell (zQf _) _).setCell (zQf _) _).setCell (zQf _) _;have hEf:Zl (((w5.setCell ⟨w.heap.size,0,none⟩ (.int .i64 L.wm)).setCell ⟨w.heap.size,1,none⟩ (.string ⟨L.blocks.toArray⟩)).setCell ⟨w.heap.size,2,none⟩ (.slice ao L.ents.length cap)) ao L.ents:=by
     rcases hEn with h|⟨g,rfl,hg,hc⟩
     ·exact Or.inl h
     ·have hne:w.heap.size<g:=zQe hq4 (hEl _ rfl);have ox:∀ j,(((w5.setCell ⟨w.heap.size,0,none⟩ (.int .i64 L.wm)).setCell ⟨w.heap.size,1,none⟩ (.string ⟨L.blocks.toArray⟩)).setCell ⟨w.heap.size,2,none⟩ (.slice (some ⟨g,0,none⟩) L.ents.length cap)).cell? ⟨g,j,none⟩=w5.cell? ⟨g,j,none⟩:=fun j=>by
       rw [zRb _ _ _ _ (by intro e;injection e;omega),zRb _ _ _ _ (by intro e;injection e;omega),zRb _ _ _ _ (by intro e;injection e;omega)]
      refine Or.inr ⟨g,rfl,by simpa using hg,fun i e hi=>?_⟩;rw [ox,ox,ox,ox];exact hc i e hi
    clear hset hV5 q5';go_wp2_with fail;refine bodyPost_ret (v:=.tuple #[.agg #[.int .i64 L.wm,.string ⟨L.blocks.toArray⟩,.slice ao L.ents.length cap],.int .i64 0]) (by simp [results,Tryz.results62,go_sem,k0,k1,k2]) rfl ?_;exact ⟨by rw [HRr.out];exact ⟨ao,cap,rfl,hEf,HEl.out⟩,hq⟩
theorem zLW (tg:Tags) (o d:Nat) (D:M.Dsk) (ids ps:List Nat) (hD:D.yD) (w:World) (h:zC w tg o d D ids ps) (hT:Tab w) :
  Calls Tryz.prog 62 #[.pointer (some ⟨d,0,none⟩)] w fun e w'=>zGN w D e w'∧Q w w':=by
 have hR:=fun W (q:Q w W)=>zJY tg o d D ids ps hD yV W (h.kept q);have hs:=zEu hD yV;have hc:=zLk D yV;unfold zGN;obtain ⟨⟨x,c⟩,hx⟩:∃ p,p=D.read yV:=⟨_,rfl⟩;rw [←hx] at hR hs hc ⊢;simp only at hR hs hc ⊢;rcases hc with rfl|rfl|rfl
 ·have:=zEg w d ⟨x.toArray⟩ hs hT hR;simpa using this
 ·exact zEh w d ⟨x.toArray⟩ hR
 ·exact zEi w d ⟨x.toArray⟩ hR
theorem zx.trans {tg tg1:Tags} {o d:Nat} {D':M.Dsk} {w w1 w2:World} (ht:∀ k,k<w.heap.size→tg1 k=tg k) (ho:Only o tg w w1) (h:zx tg1 o d D' w1 w2):zx tg o d D' w w2:=by
 obtain ⟨tg2,ids2,ps2,h1,h2,h3⟩:=h;refine ⟨tg2,ids2,ps2,fun k hk=>(h1 k (zQe hk ho.size)).trans (ht k hk),h2,?_⟩;exact ⟨h3.os.trans ho.os,h3.tape.trans ho.tape,h3.output.trans ho.output,zQq ho.size h3.size,fun k hk hn=>(h3.block k (zQe hk ho.size) (by rw [ht k hk];exact hn)).trans (ho.block k hk hn)⟩
def S.zw (c:Nat):Nat:=if c=7 then 0 else c
theorem zEI (c:Nat) (w:World):Calls Tryz.prog 66 #[.int .i64 (c:Int)] w fun e w'=>e=.returned (.int .i64 (S.zw c:Nat))∧w'=w:=by
 by_cases h7:c=7
 ·subst h7;have:S.zw 7=0:=rfl;rw [this];go_enter Tryz.func66,Tryz.ntmps66;go_wp2_with fail;go_ret;exact ⟨rfl,rfl⟩
 ·have:S.zw c=c:=by simp [S.zw,h7]
  rw [this];have h7I:¬(c:Int)=7:=by omega
  have h7b:((c:Int) == 7)=false:=by rw [zRU];exact h7I
  clear this;go_enter Tryz.func66,Tryz.ntmps66;go_wp2_with fail;go_ret;exact ⟨rfl,rfl⟩
theorem zJ5 (tg:Tags) (o d:Nat) (D:M.Dsk) (ids ps:List Nat) (hD:D.yD) (w:World) (h:zC w tg o d D ids ps) :
  Calls Tryz.prog 67 #[.pointer (some ⟨d,0,none⟩)] w fun e w'=>e=.returned (.int .i64 (S.zw (D.remove za).2:Nat))∧zx tg o d (D.remove za).1 w w':=by
 have HR:Hid _:=fun (_:Unit)=>zKx tg o d D ids ps hD za w h;obtain ⟨⟨E,c⟩,hx⟩:∃ p,p=D.remove za:=⟨_,rfl⟩;rw [←hx] at HR ⊢;simp only at HR ⊢;unfold za at HR;have IT:Hid _:=fun (W:World)=>zEI c W;obtain ⟨c2,hc2⟩:∃ c2,c2=S.zw c:=⟨_,rfl⟩;rw [←hc2] at IT ⊢;clear hx hc2;go_enter Tryz.func67,Tryz.ntmps67;go_wp2_with fail;refine (HR.out ()).mono ?_;rintro e w1 ⟨rfl,hL⟩;go_wp2_with fail;refine (IT.out _).mono ?_;rintro e w2 ⟨rfl,rfl⟩;go_wp2_with fail;go_ret;exact ⟨rfl,hL⟩
def S.settle (D:M.Dsk):M.Dsk × Nat:=
 if S.zw (D.sync yV).2=0 then (((D.sync yV).1.remove za).1,S.zw ((D.sync yV).1.remove za).2)
 else ((D.sync yV).1,S.zw (D.sync yV).2)
theorem zK7 (tg:Tags) (o d:Nat) (D:M.Dsk) (ids ps:List Nat) (hD:D.yD) (w:World) (h:zC w tg o d D ids ps) :
  Calls Tryz.prog 40 #[.pointer (some ⟨d,0,none⟩)] w fun e w'=>e=.returned (.int .i64 ((S.settle D).2:Nat))∧zx tg o d (S.settle D).1 w w':=by
 have HS:Hid _:=fun (_:Unit)=>zG8 tg o d D ids ps hD yV w h;have hE:=hD.sync yV;unfold S.settle;obtain ⟨⟨E,c⟩,hx⟩:∃ p,p=D.sync yV:=⟨_,rfl⟩;rw [←hx] at HS hE ⊢;simp only at HS hE ⊢;unfold yV at HS;have IT:Hid _:=fun (W:World)=>zEI c W;obtain ⟨c2,hc2⟩:∃ c2,c2=S.zw c:=⟨_,rfl⟩;rw [←hc2] at IT ⊢;have HT:Hid _:=fun (tg1:Tags) (ids1 ps1:List Nat) (W:World) (hW:zC W tg1 o d E ids1 ps1)=>zJ5 tg1 o d E ids1 ps1 hE W hW;clear hx hc2 hE h hD;by_cases h0:c2=0
 ·subst h0;rw [if_pos rfl];obtain ⟨⟨E2,c3⟩,hx⟩:∃ p,p=(⟨(E.remove za).1,S.zw (E.remove za).2⟩:M.Dsk × Nat):=⟨_,rfl⟩;have hx1:(E.remove za).1=E2:=(congrArg Prod.fst hx).symm;have hx2:S.zw (E.remove za).2=c3:=(congrArg Prod.snd hx).symm;rw [hx1,hx2] at HT ⊢;clear hx hx1 hx2;go_enter Tryz.func40,Tryz.ntmps40;go_wp2_with fail;refine (HS.out ()).mono ?_;rintro e w1 ⟨rfl,tg1,ids1,ps1,ht1,hL1,ho1⟩;have HH:Hid _:=And.intro ht1 (And.intro hL1 ho1);clear ht1 hL1 ho1 HS;go_wp2_with fail;refine (IT.out _).mono ?_;rintro e w2 ⟨rfl,rfl⟩;go_wp2_with fail;refine (HT.out tg1 ids1 ps1 _ HH.out.2.1).mono ?_;rintro e w3 ⟨rfl,hL3⟩;go_wp2_with fail;go_ret;exact ⟨rfl,zx.trans HH.out.1 HH.out.2.2 hL3⟩
 ·rw [if_neg h0];have h0I:¬(c2:Int)=0:=by omega
  have h0b:((c2:Int) == 0)=false:=by rw [zRU];exact h0I
  clear HT;go_enter Tryz.func40,Tryz.ntmps40;go_wp2_with fail;refine (HS.out ()).mono ?_;rintro e w1 ⟨rfl,hL1⟩;have HH:Hid _:=hL1;clear hL1 HS;go_wp2_with fail;refine (IT.out _).mono ?_;rintro e w2 ⟨rfl,rfl⟩;go_wp2_with fail;go_ret;exact ⟨rfl,HH.out⟩
theorem zn.named (h:zn w tg o p id f bo bc) (nm:ByteArray):zn w tg o p id { f with name:=nm } bo bc:=⟨h.c0,h.c1,h.fr,h.own,h.tp,h.tb,h.top⟩
theorem zLw {l:List Nat} (h:l.Nodup) {x:Nat} (hx:x∉l):(l.set k x).Nodup:=by
 rw [List.nodup_iff_pairwise_ne,zRO] at *;intro i j hi hj hij;simp only [List.length_set] at hi hj;rw [List.getElem_set,List.getElem_set];split
 ·split
  ·omega
  ·intro e;exact hx (e▸List.getElem_mem hj)
 ·split
  ·intro e;exact hx (e▸List.getElem_mem hi)
  ·exact h i j hi hj hij
theorem zKB (hD:D.yD) (old nm:ByteArray):D.rename old nm=if (D.chg (codeOf ((M.place D.files old).isSome && M.zy nm))).2=0 then (match D.files[(M.place D.files old).getD 0]? with | some f=>({ (D.chg (codeOf ((M.place D.files old).isSome && M.zy nm))).1 with files:=M.moved D.files ((M.place D.files old).getD 0) f nm },0) | none=>((D.chg (codeOf ((M.place D.files old).isSome && M.zy nm))).1,0)) else D.chg (codeOf ((M.place D.files old).isSome && M.zy nm)):=by
 rw [M.zD3 hD,zC2];have hf:=YM D (codeOf ((M.place D.files old).isSome && M.zy nm));obtain ⟨⟨E,c⟩,hE⟩:∃ p,D.chg (codeOf ((M.place D.files old).isSome && M.zy nm))=p:=⟨_,rfl⟩;rw [hE] at hf ⊢;simp only at hf ⊢;by_cases hc:c=0
 ·subst hc;simp only [if_true];rw [hf]
  cases D.files[(M.place D.files old).getD 0]?<;>rfl
 ·simp only [if_neg hc]
theorem zC.zJG (h:zC w tg o d D ids ps) (hF:zn w tg o p id f bo bc) (hid:id∉ids) (hpl:M.place D.files f.name=none)
  (hn:Yr tg o d (zM (zP D.files) (M.yK D.files f.name) f.name) (zM ps (M.yK D.files f.name) p) w w') :
  ∃ tg':Tags,(∀ k,k<w.heap.size→tg' k=tg k)∧zC w' tg' o d ⟨D.cap,M.put D.files f,D.dead,D.fuse⟩ (zM ids (M.yK D.files f.name) id) (zM ps (M.yK D.files f.name) p)∧zBG tg o d w w':=by
 obtain ⟨tg',h1,h2,h3⟩:=hn;have hle:=M.zBP D.files f.name;have hput:M.put D.files f=zM D.files (M.yK D.files f.name) f:=(M.zDs hpl).1;have hlI:=h.lenI;have hlP:ps.length=D.files.length:=by have:=h.map.len;simpa using this
 rw [hput];refine ⟨tg',h1,h.zOp h3 h1 ?_ (zEG h.nodup hid) (by rw [yQ (by omega),yQ hle];omega) (fun j q i g e1 e2 e3=>?_),h3⟩
 ·have:zP (zM D.files (M.yK D.files f.name) f)=zM (zP D.files) (M.yK D.files f.name) f.name:=(zB7 (fun f:M.Fil=>f.name) _ _ _).symm;rw [this];exact h2
 ·rcases Yi (by omega) e1 with ⟨rfl,rfl⟩|⟨hj,e1⟩
  ·rcases Yi (by omega) e2 with ⟨_,rfl⟩|⟨hj,_⟩
   ·rcases Yi hle e3 with ⟨_,rfl⟩|⟨hj,_⟩
    ·exact ⟨bo,bc,hF⟩
    ·exact absurd rfl hj
   ·exact absurd rfl hj
  ·rcases Yi (by omega) e2 with ⟨e,_⟩|⟨_,e2⟩
   ·exact absurd e hj
   ·rcases Yi hle e3 with ⟨e,_⟩|⟨_,e3⟩
    ·exact absurd e hj
    ·exact h.file _ q i g e1 e2 e3
theorem zC.zNM (h:zC w tg o d D ids ps) (hF:zn w tg o p id f bo bc) (hid:id∉ids) (hpl:M.place D.files f.name=some k)
  (hn:Yr tg o d (zP D.files) (ps.set k p) w w') :
  ∃ tg':Tags,(∀ k,k<w.heap.size→tg' k=tg k)∧zC w' tg' o d ⟨D.cap,D.files.set k f,D.dead,D.fuse⟩ (ids.set k id) (ps.set k p)∧zBG tg o d w w':=by
 obtain ⟨tg',h1,h2,h3⟩:=hn;obtain ⟨x,hx,hxn,_⟩:=M.yo hpl;have hxn:=M.Zy.1 hxn;refine ⟨tg',h1,h.zOp h3 h1 ?_ (zLw h.nodup hid) (by simpa using h.lenI) (fun j q i g e1 e2 e3=>?_),h3⟩
 ·have:zP (D.files.set k f)=zP D.files:=M.zGl hx hxn.symm;rw [this];exact h2
 ·by_cases hj:j=k
  ·subst hj;have l1:j<ps.length:=by have:=(zQd.1 e1).1;simpa using this
   have l2:j<ids.length:=by have:=(zQd.1 e2).1;simpa using this
   have l3:j<D.files.length:=by have:=(zQd.1 e3).1;simpa using this
   rw [List.getElem?_set_self l1] at e1;rw [List.getElem?_set_self l2] at e2;rw [List.getElem?_set_self l3] at e3;obtain rfl:=Option.some.inj e1;obtain rfl:=Option.some.inj e2;obtain rfl:=Option.some.inj e3;exact ⟨bo,bc,hF⟩
  ·rw [List.getElem?_set_ne (Ne.symm hj)] at e1 e2 e3;exact h.file j q i g e1 e2 e3
theorem zG9 (tg:Tags) (o d:Nat) (D:M.Dsk) (ids ps:List Nat) (hD:D.yD) (old nm:ByteArray) (hno:(D.chg (codeOf ((M.place D.files old).isSome && M.zy nm))).2≠0) (w:World) (h:zC w tg o d D ids ps) :
  Calls Tryz.prog 94 #[.pointer (some ⟨d,0,none⟩),.string old,.string nm] w fun e w'=>e=.returned (.int .i64 ((D.chg (codeOf ((M.place D.files old).isSome && M.zy nm))).2:Nat))∧zx tg o d (D.chg (codeOf ((M.place D.files old).isSome && M.zy nm))).1 w w':=by
 have HG:Hid _:=fun (_:Unit)=>zD6 tg o d D.files ps hD.sorted hD.good.few old w h.map;have HC:Hid _:=fun (W:World) (hW:zC W tg o d D ids ps)=>YU tg o d D ids ps (codeOf ((M.place D.files old).isSome && M.zy nm)) hD.fuse W hW;have HN:Hid _:=fun (W:World)=>zCr nm W;have HD:Hid (zC w tg o d D ids ps):=h;obtain ⟨⟨E,c⟩,hE⟩:∃ p,D.chg (codeOf ((M.place D.files old).isSome && M.zy nm))=p:=⟨_,rfl⟩;rw [hE] at HC hno ⊢;simp only at HC hno ⊢;have hcb:((c:Int) == 0)=false:=by rw [zRU];omega
 clear h hE
 cases hp:M.place D.files old with
 | none =>
  rw [hp] at HG HC;simp only [zR9,Bool.false_and] at HC;go_enter Tryz.func94,Tryz.ntmps94;go_wp2_with fail;refine (HG.out ()).mono ?_;rintro e w1 ⟨rfl,q1⟩;have HC1:Hid _:=fun (_:Unit)=>HC.out w1 (HD.out.kept q1);simp only [zDu,zR9];clear HG HC;go_wp2_with fail;refine (YL false w1).mono ?_;rintro e w2 ⟨rfl,hw2⟩;subst hw2;go_wp2_with fail;refine (HC1.out ()).mono ?_;rintro e w3 ⟨rfl,hL,hO⟩;have HEn:Hid (zx tg o d E w w3):=zx.same hL ((Only.yU q1).trans hO);clear hL hO HC1;go_wp2_with fail;go_ret;exact ⟨rfl,HEn.out⟩
 | some i =>
  rw [hp] at HG HC;obtain ⟨f,p,id,e1,e2,e3,e4,_⟩:=zAI HD.out hp;rw [e4] at HG;simp only [zQs,Bool.true_and] at HC;clear e1 e2 e3 e4 hp;go_enter Tryz.func94,Tryz.ntmps94;go_wp2_with fail;refine (HG.out ()).mono ?_;rintro e w1 ⟨rfl,q1⟩;simp only [zQs];clear HG;go_wp2_with fail;refine (HN.out w1).mono ?_;rintro e w2 ⟨rfl,q2⟩;have HC1:Hid _:=fun (_:Unit)=>HC.out w2 (HD.out.kept (q1.trans q2));clear HC HN;go_wp2_with fail;refine (YL (M.zy nm) w2).mono ?_;rintro e w3 ⟨rfl,hw2⟩;subst hw2;go_wp2_with fail;refine (HC1.out ()).mono ?_;rintro e w4 ⟨rfl,hL,hO⟩;have HEn:Hid (zx tg o d E w w4):=zx.same hL ((Only.yU (q1.trans q2)).trans hO);clear hL hO HC1;go_wp2_with fail;go_ret;exact ⟨rfl,HEn.out⟩
theorem zPq (tg tg1:Tags) (o d:Nat) (E:M.Dsk) (hE:E.yD) (ids1 ps1:List Nat) (i p id:Nat) (f:M.Fil) (nm:ByteArray) (bo:Option Addr) (bc:Nat) (w w5:World)
  (h5:zC w5 tg1 o d ⟨E.cap,E.files.eraseIdx i,E.dead,E.fuse⟩ ids1 ps1) (hF:zn w5 tg1 o p id f bo bc) (hid:id∉ids1) (ht:∀ k,k<w.heap.size→tg1 k=tg k) (hO:Only o tg w w5) (W:World) (hq:Q w5 W) :
  Calls Tryz.prog 72 #[.pointer (some ⟨d,1,none⟩),.string nm,.pointer (some ⟨p,0,none⟩)] W fun e w'=>e=.returned (.tuple #[])∧zx tg o d ⟨E.cap,M.moved E.files i f nm,E.dead,E.fuse⟩ w w':=by
 have hW:=h5.kept hq;have hFW:zn W tg1 o p id { f with name:=nm } bo bc:=(hF.keep hq.below.size (fun _ _=>rfl) (fun k hk _=>hq.below.block k hk)).named nm;have hOW:Only o tg w W:=⟨(Only.yU (o:=o) (tg:=tg) hq).os.trans hO.os,(Only.yU (o:=o) (tg:=tg) hq).tape.trans hO.tape,(Only.yU (o:=o) (tg:=tg) hq).output.trans hO.output,zQq hO.size hq.below.size,fun k hk hn=>(hq.below.block k (zQe hk hO.size)).trans (hO.block k hk hn)⟩;have hfin:∀ {w':World} {D':M.Dsk},(∃ (tg':Tags) (ids' ps':List Nat),(∀ k,k<W.heap.size→tg' k=tg1 k)∧zC w' tg' o d D' ids' ps'∧zBG tg1 o d W w')→zx tg o d D' w w':=fun ⟨tg',ids',ps',a1,a2,a3⟩ =>
  ⟨tg',ids',ps',fun k hk=>(a1 k (zQe hk hOW.size)).trans (ht k hk),a2,⟨a3.os.trans hOW.os,a3.tape.trans hOW.tape,a3.output.trans hOW.output,zQq hOW.size a3.size,fun k hk hn=>(a3.only.block k (zQe hk hOW.size) (by rw [ht k hk];exact hn)).trans (hOW.block k hk hn)⟩⟩
 have hs:=hE.sorted.erase i;have hl:(E.files.eraseIdx i).length≤64:=by have:=(List.eraseIdx_sublist E.files i).length_le;have:=hE.good.few;omega
 cases hp:M.place (E.files.eraseIdx i) nm with
 | some k =>
  refine (zH8 tg1 o d (E.files.eraseIdx i) ps1 hs hl nm p k hp W hW.map).mono ?_;rintro e w' ⟨rfl,hn⟩;obtain ⟨tg',a1,a2,a3⟩:=hW.zNM hFW hid hp hn;have:M.moved E.files i f nm=(E.files.eraseIdx i).set k { f with name:=nm }:=by unfold M.moved;rw [hp]
  rw [this];exact ⟨rfl,hfin ⟨tg',_,_,a1,a2,a3⟩⟩
 | none =>
  refine (zF5 tg1 o d (E.files.eraseIdx i) ps1 hs hl nm p hp W hW.map).mono ?_;rintro e w' ⟨rfl,hn⟩;obtain ⟨tg',a1,a2,a3⟩:=hW.zJG hFW hid hp hn;have:M.moved E.files i f nm=M.put (E.files.eraseIdx i) { f with name:=nm }:=by unfold M.moved;rw [hp]
  rw [this];exact ⟨rfl,hfin ⟨tg',_,_,a1,a2,a3⟩⟩
theorem zEo (tg:Tags) (o d:Nat) (D:M.Dsk) (ids ps:List Nat) (hD:D.yD) (old nm:ByteArray) (i:Nat) (f:M.Fil) (E:M.Dsk) (hp:M.place D.files old=some i) (hf:D.files[i]?=some f) (hok:M.zy nm=true) (hE:D.chg (codeOf true)=(E,0)) (w:World) (h:zC w tg o d D ids ps) :
  Calls Tryz.prog 94 #[.pointer (some ⟨d,0,none⟩),.string old,.string nm] w fun e w'=>e=.returned (.int .i64 0)∧zx tg o d ⟨E.cap,M.moved D.files i f nm,E.dead,E.fuse⟩ w w':=by
 have HG:Hid _:=fun (_:Unit)=>zD6 tg o d D.files ps hD.sorted hD.good.few old w h.map;have HC:Hid _:=fun (W:World) (hW:zC W tg o d D ids ps)=>YU tg o d D ids ps (codeOf true) hD.fuse W hW;rw [hE] at HC;have hfe:E.files=D.files:=by have:=YM D (codeOf true);rw [hE] at this;exact this
 have hEF:E.yD:=by have:=hD.chg (codeOf true);rw [hE] at this;exact this
 have hfE:E.files[i]?=some f:=by rw [hfe];exact hf
 have HDr:Hid _:=fun (W:World) (hW:zC W tg o d E ids ps)=>zM1 tg o d E.files ps hEF.sorted hEF.good.few old i (by rw [hfe];exact hp) W hW.map;have HN:Hid _:=fun (W:World)=>zCr nm W;rw [hok] at HN;obtain ⟨f',p,id,e1,e2,e3,e4,_⟩:=zAI h hp;rw [hp,e4] at HG;have HD:Hid (zC w tg o d D ids ps):=h;have hlim:nm.size≤281474976710656:=by
  unfold M.zy at hok;simp at hok;omega
 have HId:Hid (id∉ids.eraseIdx i):=zIc h.nodup e3;have HP:Hid (ps[i]?=some p∧ids[i]?=some id):=⟨e2,e3⟩;rw [←hfe];have HX:Hid (E.yD∧E.files[i]?=some f):=⟨hEF,hfE⟩;clear h hE hp hf hok hfe hEF hfE e1 e2 e3 e4;go_enter Tryz.func94,Tryz.ntmps94;go_wp2_with fail;refine (HG.out ()).mono ?_;rintro e w1 ⟨rfl,q1⟩;simp only [zQs];clear HG;go_wp2_with fail;refine (HN.out w1).mono ?_;rintro e w2 ⟨rfl,q2⟩;have HC1:Hid _:=fun (_:Unit)=>HC.out w2 (HD.out.kept (q1.trans q2));clear HC HN;go_wp2_with fail;refine (YL true w2).mono ?_;rintro e w3 ⟨rfl,hw2⟩;subst hw2;go_wp2_with fail;refine (HC1.out ()).mono ?_;rintro e w4 ⟨rfl,hL,hO⟩;have HC2:Hid _:=fun (_:Unit)=>HDr.out w4 hL;have HL:Hid _:=hL;have HO:Hid (Only o tg w w4):=(Only.yU (q1.trans q2)).trans hO;clear hL hO HC1 HDr;go_wp2_with fail;refine (HC2.out ()).mono ?_;rintro e w5 ⟨rfl,hN⟩;obtain ⟨tg1,a1,a2,a3⟩:=HL.out.erased i hN;obtain ⟨bo,bc,hF⟩:=HL.out.file i p id f HP.out.1 HP.out.2 HX.out.2;have hF5:zn w5 tg1 o p id f bo bc:=hF.keep a3.size a1 (fun k hk e=>a3.block k hk (by rcases e with e | e<;>exact Za e (by omega)) (by rcases e with e | e<;>exact Za e (by omega)) (by rcases e with e | e<;>exact Za e (by omega)));have HPut:Hid _:=fun (W:World) (hq:Q w5 W)=>zPq tg tg1 o d E HX.out.1 (ids.eraseIdx i) (ps.eraseIdx i) i p id f nm bo bc w w5 a2 hF5 HId.out (fun k hk=>a1 k (zQe hk HO.out.size)) (HO.out.trans a3.only) W hq;clear a1 a2 a3 hF hF5 HC2 HL HO HId HP HX hN;go_upto_region 5 with fail
 go_region_held3 (fun _=>True) (exact trivial)
  (first
   | (go_at_call 47;refine (Zf nm _ hlim).mono ?_;rintro e w6 ⟨rfl,b6⟩;have hS6:True:=trivial)
   | (go_at_call 72;refine (HPut.out w6 (((Q.refl w5).drew).trans ⟨b6⟩)).mono ?_;rintro e w7 ⟨rfl,hEn⟩;have HEn:Hid _:=hEn;clear hEn))
 go_wp2_with fail;go_ret;exact ⟨rfl,HEn.out⟩
theorem zKw (tg:Tags) (o d:Nat) (D:M.Dsk) (ids ps:List Nat) (hD:D.yD) (old nm:ByteArray) (w:World) (h:zC w tg o d D ids ps) :
  Calls Tryz.prog 94 #[.pointer (some ⟨d,0,none⟩),.string old,.string nm] w fun e w'=>e=.returned (.int .i64 ((D.rename old nm).2:Nat))∧zx tg o d (D.rename old nm).1 w w':=by
 rw [zKB hD];by_cases hc:(D.chg (codeOf ((M.place D.files old).isSome && M.zy nm))).2=0
 ·rw [if_pos hc];have hz:=(zDU hc).1;have hb:((M.place D.files old).isSome && M.zy nm)=true:=by
   cases hx:((M.place D.files old).isSome && M.zy nm)
   ·rw [hx] at hz;simp [codeOf] at hz
   ·rfl
  simp only [Bool.and_eq_true] at hb
  cases hp:M.place D.files old with
  | none=>rw [hp] at hb;simp at hb
  | some i =>
   rw [hp] at hc;simp only [zQs,hb.2,Bool.true_and] at hc ⊢;obtain ⟨f,hf,_,_⟩:=M.yo hp;obtain ⟨⟨E,c⟩,hE⟩:∃ p,D.chg (codeOf true)=p:=⟨_,rfl⟩;rw [hE] at hc ⊢;simp only at hc;subst hc;simp only [zQo,hf];exact zEo tg o d D ids ps hD old nm i f E hp hf hb.2 hE w h
 ·rw [if_neg hc];exact zG9 tg o d D ids ps hD old nm hc w h
theorem zAh (tg:Tags) (o d:Nat) (D:M.Dsk) (ids ps:List Nat) (hD:D.yD) (nm:ByteArray) (n:Nat) (w:World) (h:zC w tg o d D ids ps) :
  Calls Tryz.prog 71 #[.pointer (some ⟨d,0,none⟩),.string nm,.bool (M.place D.files nm).isSome,.int .i64 (n:Int)] w fun e w'=>e=.returned (.int .i64 (yY D nm n:Nat))∧Q w w':=by
 have HN:Hid _:=fun (W:World)=>zCr nm W;have HD:Hid (zC w tg o d D ids ps):=h;unfold yY
 cases ho:M.zy nm
 ·rw [ho] at HN;rw [if_pos rfl];clear h;go_enter Tryz.func71,Tryz.ntmps71;go_wp2_with fail;refine (HN.out w).mono ?_;rintro e w1 ⟨rfl,qA⟩;clear HN;go_wp2_with fail;go_ret;exact ⟨rfl,qA⟩
 ·rw [ho] at HN;simp only [Bool.true_eq_false,if_false];have hfit:=hD.good.fits;have hcap:=hD.good.cap;have hfew:=hD.good.few;obtain ⟨room,hroom⟩:∃ room,D.cap-M.total D.files=room:=⟨_,rfl⟩;have hwr:IntKind.i64.wrap ((D.cap:Int)-(M.total D.files:Int))=(room:Int):=by rw [IntKind.wrap_i64];omega
  by_cases hov:D.cap<M.total D.files+n
  ·rw [if_pos (Or.inl hov)];have d1:decide ((room:Int)<(n:Int))=true:=by rw [zRa];omega
   have hrn:room<n:=by omega
   obtain ⟨tot,htot⟩:∃ tot,M.total D.files=tot:=⟨_,rfl⟩;rw [htot] at hwr;have HS:Hid (∀ W,Q w W→Calls Tryz.prog 16 #[.pointer (some ⟨d,0,none⟩)] W fun e w'=>e=.returned (.int .i64 (tot:Nat))∧Q W w'):=fun W q=>by rw [←htot];exact zJX tg o d D ids ps hD W (h.kept q)
   have cc:=h.c0;clear h hfit hcap hfew hroom hov htot;go_enter Tryz.func71,Tryz.ntmps71;go_wp2_with fail;refine (HN.out w).mono ?_;rintro e w1 ⟨rfl,qA⟩;have c0:=zA cc qA;have HS:Hid (∀ W,Q w1 W→Calls Tryz.prog 16 #[.pointer (some ⟨d,0,none⟩)] W fun e w'=>e=.returned (.int .i64 (tot:Nat))∧Q W w'):=fun W q=>HS.out W (qA.trans q);clear HN cc;go_upto_region 3 with fail
   refine wp_region_held_drew (S:=fun w'=>Q w1 w'∧w'.cell? ⟨d,0,none⟩=some (.int .i64 (D.cap:Int))) (by kernel_rfl) ⟨(Q.refl w1).drew,c0⟩ (fun hHeld=>?_);refine tk3 (i:=0) (v:=?_) rfl (Or.inl ⟨by kernel_rfl,?_⟩) hHeld ?_;rotate_left
   ·(intro w hSw;(try dsimp only at hSw);go_simp;try with_reducible rfl)
   try simp only [Act.put,nrm]
   refine tk3 (i:=1) (v:=?_) rfl (Or.inl ⟨by kernel_rfl,?_⟩) hHeld ?_;rotate_left
   ·(intro w hSw;(try dsimp only at hSw);go_simp;try with_reducible rfl)
   try simp only [Act.put,nrm]
   refine tk3 (i:=2) (v:=?_) rfl (Or.inl ⟨by kernel_rfl,?_⟩) hHeld ?_;rotate_left
   ·(intro w hSw;(try dsimp only at hSw);go_simp;try with_reducible rfl)
   try simp only [Act.put,nrm]
   refine tk3 (i:=3) (v:=?_) rfl (Or.inl ⟨by kernel_rfl,?_⟩) hHeld ?_;rotate_left
   ·(intro w hSw;(try dsimp only at hSw);go_simp;try with_reducible rfl)
   try simp only [Act.put,nrm]
   refine tk3 (i:=4) (v:=?_) rfl (Or.inl ⟨by kernel_rfl,?_⟩) hHeld ?_;rotate_left
   ·(intro w hSw;(try dsimp only at hSw);go_simp;try with_reducible rfl)
   try simp only [Act.put,nrm]
   refine tk3 (i:=5) (v:=?_) rfl (Or.inl ⟨by kernel_rfl,?_⟩) hHeld ?_;rotate_left
   ·(intro w hSw;(try dsimp only at hSw);go_simp;try with_reducible rfl)
   try simp only [Act.put,nrm]
   refine wpAnyH_ready (rs:=[6]) (by kernel_rfl) (by simp) ?_;refine AllReadyH.cons rfl (fun K hK=>?_) AllReadyH.nil;go_simp;refine ((HS.out _ hHeld.1)).mono ?_;rintro e v1 ⟨rfl,q1⟩
   try go_wp2_with fail
   refine hK.out _ _ ⟨hHeld.1.trans q1,zA hHeld.2 q1⟩ (fun hHeld0=>?_);clear hK K hHeld;have hHeld:=hHeld0;clear hHeld0
   try simp only [Act.put,nrm]
   refine tk3 (i:=7) (v:=?_) rfl (Or.inl ⟨by kernel_rfl,?_⟩) hHeld ?_;rotate_left
   ·(intro w hSw;(try dsimp only at hSw);go_simp;try with_reducible rfl)
   try simp only [Act.put,nrm]
   refine tk3 (i:=8) (v:=?_) rfl (Or.inl ⟨by kernel_rfl,?_⟩) hHeld ?_;rotate_left
   ·(intro w hSw;(try dsimp only at hSw);go_simp;try with_reducible rfl)
   try simp only [Act.put,nrm]
   refine tk3 (i:=9) (v:=?_) rfl (Or.inl ⟨by kernel_rfl,?_⟩) hHeld ?_;rotate_left
   ·(intro w hSw;(try dsimp only at hSw);go_simp;try with_reducible rfl)
   try simp only [Act.put,nrm]
   refine tk3 (i:=10) (v:=undef) rfl (Or.inr ⟨by kernel_rfl,rfl⟩) hHeld ?_
   try simp only [Act.put,nrm]
   refine tk3 (i:=11) (v:=undef) rfl (Or.inr ⟨by kernel_rfl,rfl⟩) hHeld ?_
   try simp only [Act.put,nrm]
   refine tk3 (i:=12) (v:=undef) rfl (Or.inr ⟨by kernel_rfl,rfl⟩) hHeld ?_
   try simp only [Act.put,nrm]
   refine tk3 (i:=13) (v:=undef) rfl (Or.inr ⟨by kernel_rfl,rfl⟩) hHeld ?_
   try simp only [Act.put,nrm]
   refine tk3 (i:=14) (v:=undef) rfl (Or.inr ⟨by kernel_rfl,rfl⟩) hHeld ?_
   try simp only [Act.put,nrm]
   refine tk3 (i:=15) (v:=undef) rfl (Or.inr ⟨by kernel_rfl,rfl⟩) hHeld ?_
   try simp only [Act.put,nrm]
   refine tk3 (i:=16) (v:=undef) rfl (Or.inr ⟨by kernel_rfl,rfl⟩) hHeld ?_
   try simp only [Act.put,nrm]
   refine tk3 (i:=17) (v:=undef) rfl (Or.inr ⟨by kernel_rfl,rfl⟩) hHeld ?_
   try simp only [Act.put,nrm]
   refine tk3 (i:=18) (v:=undef) rfl (Or.inr ⟨by kernel_rfl,rfl⟩) hHeld ?_
   try simp only [Act.put,nrm]
   refine tk3 (i:=19) (v:=?_) rfl (Or.inl ⟨by kernel_rfl,?_⟩) hHeld ?_;rotate_left
   ·(intro w hSw;(try dsimp only at hSw);go_simp;try with_reducible rfl)
   try simp only [Act.put,nrm]
   refine wpAnyH_done (by kernel_rfl) ?_ _;go_wp2_with fail;go_ret;exact ⟨rfl,qA.trans hHeld.1⟩
  ·have d1:decide ((room:Int)<(n:Int))=false:=by rw [decide_eq_false_iff_not];omega
   have hrn:¬room<n:=by omega
   obtain ⟨tot,htot⟩:∃ tot,M.total D.files=tot:=⟨_,rfl⟩;rw [htot] at hwr;have HS:Hid (∀ W,Q w W→Calls Tryz.prog 16 #[.pointer (some ⟨d,0,none⟩)] W fun e w'=>e=.returned (.int .i64 (tot:Nat))∧Q W w'):=fun W q=>by rw [←htot];exact zJX tg o d D ids ps hD W (h.kept q)
   have cc:=h.c0
   cases hp:M.place D.files nm with
   | some i =>
    rw [if_neg (fun e=>by rcases e with e | e;exact hov e;simp at e)];simp only [zQs];clear h hfit hcap hfew hroom hov htot hp;go_enter Tryz.func71,Tryz.ntmps71;go_wp2_with fail;refine (HN.out w).mono ?_;rintro e w1 ⟨rfl,qA⟩;have c0:=zA cc qA;have HS:Hid (∀ W,Q w1 W→Calls Tryz.prog 16 #[.pointer (some ⟨d,0,none⟩)] W fun e w'=>e=.returned (.int .i64 (tot:Nat))∧Q W w'):=fun W q=>HS.out W (qA.trans q);clear HN cc;go_upto_region 3 with fail
    refine wp_region_held_drew (S:=fun w'=>Q w1 w'∧w'.cell? ⟨d,0,none⟩=some (.int .i64 (D.cap:Int))) (by kernel_rfl) ⟨(Q.refl w1).drew,c0⟩ (fun hHeld=>?_);refine tk3 (i:=0) (v:=?_) rfl (Or.inl ⟨by kernel_rfl,?_⟩) hHeld ?_;rotate_left
    ·(intro w hSw;(try dsimp only at hSw);go_simp;try with_reducible rfl)
    try simp only [Act.put,nrm]
    refine tk3 (i:=1) (v:=?_) rfl (Or.inl ⟨by kernel_rfl,?_⟩) hHeld ?_;rotate_left
    ·(intro w hSw;(try dsimp only at hSw);go_simp;try with_reducible rfl)
    try simp only [Act.put,nrm]
    refine tk3 (i:=2) (v:=?_) rfl (Or.inl ⟨by kernel_rfl,?_⟩) hHeld ?_;rotate_left
    ·(intro w hSw;(try dsimp only at hSw);go_simp;try with_reducible rfl)
    try simp only [Act.put,nrm]
    refine tk3 (i:=3) (v:=?_) rfl (Or.inl ⟨by kernel_rfl,?_⟩) hHeld ?_;rotate_left
    ·(intro w hSw;(try dsimp only at hSw);go_simp;try with_reducible rfl)
    try simp only [Act.put,nrm]
    refine tk3 (i:=4) (v:=?_) rfl (Or.inl ⟨by kernel_rfl,?_⟩) hHeld ?_;rotate_left
    ·(intro w hSw;(try dsimp only at hSw);go_simp;try with_reducible rfl)
    try simp only [Act.put,nrm]
    refine tk3 (i:=5) (v:=?_) rfl (Or.inl ⟨by kernel_rfl,?_⟩) hHeld ?_;rotate_left
    ·(intro w hSw;(try dsimp only at hSw);go_simp;try with_reducible rfl)
    try simp only [Act.put,nrm]
    refine wpAnyH_ready (rs:=[6]) (by kernel_rfl) (by simp) ?_;refine AllReadyH.cons rfl (fun K hK=>?_) AllReadyH.nil;go_simp;refine ((HS.out _ hHeld.1)).mono ?_;rintro e v1 ⟨rfl,q1⟩
    try go_wp2_with fail
    refine hK.out _ _ ⟨hHeld.1.trans q1,zA hHeld.2 q1⟩ (fun hHeld0=>?_);clear hK K hHeld;have hHeld:=hHeld0;clear hHeld0
    try simp only [Act.put,nrm]
    refine tk3 (i:=7) (v:=?_) rfl (Or.inl ⟨by kernel_rfl,?_⟩) hHeld ?_;rotate_left
    ·(intro w hSw;(try dsimp only at hSw);go_simp;try with_reducible rfl)
    try simp only [Act.put,nrm]
    refine tk3 (i:=8) (v:=?_) rfl (Or.inl ⟨by kernel_rfl,?_⟩) hHeld ?_;rotate_left
    ·(intro w hSw;(try dsimp only at hSw);go_simp;try with_reducible rfl)
    try simp only [Act.put,nrm]
    refine tk3 (i:=9) (v:=?_) rfl (Or.inl ⟨by kernel_rfl,?_⟩) hHeld ?_;rotate_left
    ·(intro w hSw;(try dsimp only at hSw);go_simp;try with_reducible rfl)
    try simp only [Act.put,nrm]
    refine tk3 (i:=10) (v:=?_) rfl (Or.inl ⟨by kernel_rfl,?_⟩) hHeld ?_;rotate_left
    ·(intro w hSw;(try dsimp only at hSw);go_simp;try with_reducible rfl)
    try simp only [Act.put,nrm]
    refine tk3 (i:=11) (v:=?_) rfl (Or.inl ⟨by kernel_rfl,?_⟩) hHeld ?_;rotate_left
    ·(intro w hSw;(try dsimp only at hSw);go_simp;try with_reducible rfl)
    try simp only [Act.put,nrm]
    refine tk3 (i:=12) (v:=?_) rfl (Or.inl ⟨by kernel_rfl,?_⟩) hHeld ?_;rotate_left
    ·(intro w hSw;(try dsimp only at hSw);go_simp;try with_reducible rfl)
    try simp only [Act.put,nrm]
    refine tk3 (i:=13) (v:=undef) rfl (Or.inr ⟨by kernel_rfl,rfl⟩) hHeld ?_
    try simp only [Act.put,nrm]
    refine tk3 (i:=14) (v:=undef) rfl (Or.inr ⟨by kernel_rfl,rfl⟩) hHeld ?_
    try simp only [Act.put,nrm]
    refine tk3 (i:=15) (v:=undef) rfl (Or.inr ⟨by kernel_rfl,rfl⟩) hHeld ?_
    try simp only [Act.put,nrm]
    refine tk3 (i:=16) (v:=undef) rfl (Or.inr ⟨by kernel_rfl,rfl⟩) hHeld ?_
    try simp only [Act.put,nrm]
    refine tk3 (i:=17) (v:=undef) rfl (Or.inr ⟨by kernel_rfl,rfl⟩) hHeld ?_
    try simp only [Act.put,nrm]
    refine tk3 (i:=18) (v:=?_) rfl (Or.inl ⟨by kernel_rfl,?_⟩) hHeld ?_;rotate_left
    ·(intro w hSw;(try dsimp only at hSw);go_simp;try with_reducible rfl)
    try simp only [Act.put,nrm]
    refine tk3 (i:=19) (v:=?_) rfl (Or.inl ⟨by kernel_rfl,?_⟩) hHeld ?_;rotate_left
    ·(intro w hSw;(try dsimp only at hSw);go_simp;try with_reducible rfl)
    try simp only [Act.put,nrm]
    refine wpAnyH_done (by kernel_rfl) ?_ _;go_wp2_with fail;go_ret;exact ⟨rfl,qA.trans hHeld.1⟩
   | none =>
    have HLn:Hid (∀ W,Q w W→Calls Tryz.prog 68 #[.pointer (some ⟨d,1,none⟩)] W fun e w'=>e=.returned (.int .i64 (D.files.length:Nat))∧w'=W):=fun W q=>zOR tg o d D.files ps W (h.kept q).map;have hfull:(if D.cap<M.total D.files+n∨((none:Option Nat)=none∧64≤D.files.length) then 9 else 0)=if 64≤D.files.length then 9 else 0:=by simp [hov]
    rw [hfull];simp only [zR9];obtain ⟨len,hlen⟩:∃ len,D.files.length=len:=⟨_,rfl⟩;rw [hlen] at hfew HLn ⊢;have d2:((len:Int) == 64)=decide (64≤len):=by rw [Bool.eq_iff_iff];simp;omega
    have hif:(if 64≤len then 9 else 0)=if decide (64≤len)=true then 9 else 0:=by simp
    rw [hif];obtain ⟨fb,hfb⟩:∃ fb,decide (64≤len)=fb:=⟨_,rfl⟩;rw [hfb] at d2 ⊢;clear h hfit hcap hfew hroom hov htot hp hfull hif hlen hfb;go_enter Tryz.func71,Tryz.ntmps71;go_wp2_with fail;refine (HN.out w).mono ?_;rintro e w1 ⟨rfl,qA⟩;have c0:=zA cc qA;have HS:Hid (∀ W,Q w1 W→Calls Tryz.prog 16 #[.pointer (some ⟨d,0,none⟩)] W fun e w'=>e=.returned (.int .i64 (tot:Nat))∧Q W w'):=fun W q=>HS.out W (qA.trans q);have HLn:Hid (∀ W,Q w1 W→Calls Tryz.prog 68 #[.pointer (some ⟨d,1,none⟩)] W fun e w'=>e=.returned (.int .i64 (len:Nat))∧w'=W):=fun W q=>HLn.out W (qA.trans q);clear HN cc;go_upto_region 3 with fail
    refine wp_region_held_drew (S:=fun w'=>Q w1 w'∧w'.cell? ⟨d,0,none⟩=some (.int .i64 (D.cap:Int))) (by kernel_rfl) ⟨(Q.refl w1).drew,c0⟩ (fun hHeld=>?_);refine tk3 (i:=0) (v:=?_) rfl (Or.inl ⟨by kernel_rfl,?_⟩) hHeld ?_;rotate_left
    ·(intro w hSw;(try dsimp only at hSw);go_simp;try with_reducible rfl)
    try simp only [Act.put,nrm]
    refine tk3 (i:=1) (v:=?_) rfl (Or.inl ⟨by kernel_rfl,?_⟩) hHeld ?_;rotate_left
    ·(intro w hSw;(try dsimp only at hSw);go_simp;try with_reducible rfl)
    try simp only [Act.put,nrm]
    refine tk3 (i:=2) (v:=?_) rfl (Or.inl ⟨by kernel_rfl,?_⟩) hHeld ?_;rotate_left
    ·(intro w hSw;(try dsimp only at hSw);go_simp;try with_reducible rfl)
    try simp only [Act.put,nrm]
    refine tk3 (i:=3) (v:=?_) rfl (Or.inl ⟨by kernel_rfl,?_⟩) hHeld ?_;rotate_left
    ·(intro w hSw;(try dsimp only at hSw);go_simp;try with_reducible rfl)
    try simp only [Act.put,nrm]
    refine tk3 (i:=4) (v:=?_) rfl (Or.inl ⟨by kernel_rfl,?_⟩) hHeld ?_;rotate_left
    ·(intro w hSw;(try dsimp only at hSw);go_simp;try with_reducible rfl)
    try simp only [Act.put,nrm]
    refine tk3 (i:=5) (v:=?_) rfl (Or.inl ⟨by kernel_rfl,?_⟩) hHeld ?_;rotate_left
    ·(intro w hSw;(try dsimp only at hSw);go_simp;try with_reducible rfl)
    try simp only [Act.put,nrm]
    refine wpAnyH_ready (rs:=[6]) (by kernel_rfl) (by simp) ?_;refine AllReadyH.cons rfl (fun K hK=>?_) AllReadyH.nil;go_simp;refine ((HS.out _ hHeld.1)).mono ?_;rintro e v1 ⟨rfl,q1⟩
    try go_wp2_with fail
    refine hK.out _ _ ⟨hHeld.1.trans q1,zA hHeld.2 q1⟩ (fun hHeld0=>?_);clear hK K hHeld;have hHeld:=hHeld0;clear hHeld0
    try simp only [Act.put,nrm]
    refine tk3 (i:=7) (v:=?_) rfl (Or.inl ⟨by kernel_rfl,?_⟩) hHeld ?_;rotate_left
    ·(intro w hSw;(try dsimp only at hSw);go_simp;try with_reducible rfl)
    try simp only [Act.put,nrm]
    refine tk3 (i:=8) (v:=?_) rfl (Or.inl ⟨by kernel_rfl,?_⟩) hHeld ?_;rotate_left
    ·(intro w hSw;(try dsimp only at hSw);go_simp;try with_reducible rfl)
    try simp only [Act.put,nrm]
    refine tk3 (i:=9) (v:=?_) rfl (Or.inl ⟨by kernel_rfl,?_⟩) hHeld ?_;rotate_left
    ·(intro w hSw;(try dsimp only at hSw);go_simp;try with_reducible rfl)
    try simp only [Act.put,nrm]
    refine tk3 (i:=10) (v:=?_) rfl (Or.inl ⟨by kernel_rfl,?_⟩) hHeld ?_;rotate_left
    ·(intro w hSw;(try dsimp only at hSw);go_simp;try with_reducible rfl)
    try simp only [Act.put,nrm]
    refine tk3 (i:=11) (v:=?_) rfl (Or.inl ⟨by kernel_rfl,?_⟩) hHeld ?_;rotate_left
    ·(intro w hSw;(try dsimp only at hSw);go_simp;try with_reducible rfl)
    try simp only [Act.put,nrm]
    refine tk3 (i:=12) (v:=?_) rfl (Or.inl ⟨by kernel_rfl,?_⟩) hHeld ?_;rotate_left
    ·(intro w hSw;(try dsimp only at hSw);go_simp;try with_reducible rfl)
    try simp only [Act.put,nrm]
    refine tk3 (i:=13) (v:=?_) rfl (Or.inl ⟨by kernel_rfl,?_⟩) hHeld ?_;rotate_left
    ·(intro w hSw;(try dsimp only at hSw);go_simp;try with_reducible rfl)
    try simp only [Act.put,nrm]
    refine tk3 (i:=14) (v:=?_) rfl (Or.inl ⟨by kernel_rfl,?_⟩) hHeld ?_;rotate_left
    ·(intro w hSw;(try dsimp only at hSw);go_simp;try with_reducible rfl)
    try simp only [Act.put,nrm]
    refine tk3 (i:=15) (v:=?_) rfl (Or.inl ⟨by kernel_rfl,?_⟩) hHeld ?_;rotate_left
    ·(intro w hSw;(try dsimp only at hSw);go_simp;try with_reducible rfl)
    try simp only [Act.put,nrm]
    refine wpAnyH_ready (rs:=[16]) (by kernel_rfl) (by simp) ?_;refine AllReadyH.cons rfl (fun K hK=>?_) AllReadyH.nil;go_simp;refine ((HLn.out _ hHeld.1)).mono ?_;rintro e v2 ⟨rfl,q2⟩
    try go_wp2_with fail
    refine hK.out _ _ (by first | exact hHeld | (rw [q2];exact hHeld)) (fun hHeld0=>?_);clear hK K hHeld;have hHeld:=hHeld0;clear hHeld0
    try simp only [Act.put,nrm]
    refine tk3 (i:=17) (v:=?_) rfl (Or.inl ⟨by kernel_rfl,?_⟩) hHeld ?_;rotate_left
    ·(intro w hSw;(try dsimp only at hSw);go_simp;try with_reducible rfl)
    try simp only [Act.put,nrm]
    refine tk3 (i:=18) (v:=?_) rfl (Or.inl ⟨by kernel_rfl,?_⟩) hHeld ?_;rotate_left
    ·(intro w hSw;(try dsimp only at hSw);go_simp;try with_reducible rfl)
    try simp only [Act.put,nrm]
    refine tk3 (i:=19) (v:=?_) rfl (Or.inl ⟨by kernel_rfl,?_⟩) hHeld ?_;rotate_left
    ·(intro w hSw;(try dsimp only at hSw);go_simp;try with_reducible rfl)
    try simp only [Act.put,nrm]
    refine wpAnyH_done (by kernel_rfl) ?_ _
    cases fb
    ·go_wp2_with fail;go_ret;exact ⟨rfl,qA.trans hHeld.1⟩
    ·go_wp2_with fail;go_ret;exact ⟨rfl,qA.trans hHeld.1⟩
end Go.Proofs.YtekdenkllipehabGreatDoor
namespace Go.Proofs.YtekdenkllipehabGreatDoor
open Go.RowKit Go.Lib
theorem zEc {P:Program} (w:World) (t u ty e:TypeId) (i:TypeInfo) (ht:P.underlying t=some (.slice e)) (hu:P.underlying u=some .string) (hi:P.info? e=some i) (hz:i.zero=some (.int .u8 0)) (hsize:i.size=1) (hby:i.bytes=1)
  (v:Value) (n:Nat) (xs:List Value) (hown:w.ownsRow 0 e 1 v n xs) (s:ByteArray) (h63:n+s.size≤maxLen) (hbytes:n+s.size≤140737488355328) :
  ∃ v' w',(Builtin.append_ #[t,u] ty #[v,.string s]).run P w=.ok v' w'∧w'.ownsRow 0 e 1 v' (n+s.size) (xs++strCells s)∧w.grownBy w' v.ownBlock∧(v'.ownBlock=v.ownBlock∨∃ g,v'.ownBlock=some g∧w.heap.size≤g):=by
 obtain ⟨v',w',hr,h2,h3,h4⟩:=run_append_own_string (P:=P) w 0 t u ty e i ht hu hi hz hsize hby v n xs hown s h63 hbytes (zQn _);refine ⟨v',w',hr,h2,h3,?_⟩;have hsmall:n+s.size≤9223372036854775807:=by simp only [maxLen] at h63;omega
 have hxl:xs.length=n:=by simpa using hown.1
 rcases hown.2 with ⟨rfl,rfl⟩|⟨g,cap,cur,rfl,hbg,hg,hnc,hcm,hcs,htake⟩
 ·by_cases hm:s.size=0
  ·rw [h4.2 ⟨rfl,hm⟩];exact Or.inl rfl
  ·have hr2:=run_append_nil_string (P:=P) w t u ty e i (.int .u8 0) ht hu hi hz s (by omega) (by omega) (by rw [hby];omega);rw [hr2] at hr;injection hr with hv _;subst hv;exact Or.inr ⟨_,rfl,zQf _⟩
 ·by_cases hroom:n+s.size≤cap
  ·have hcs':cur.size=cap:=by simpa using hcs
   have hr2:=run_append_room_string (P:=P) w t u ty e i ht hu hi hsize g n cap cur hg s hroom (by omega);rw [hr2] at hr;injection hr with hv _;subst hv;exact Or.inl rfl
  ·have holds:∀ j u,xs[j]?=some u→w.cell? ((⟨g,0,none⟩:Addr).add j)=some u:=hown.cells (g:=g) rfl;have hr2:=run_append_grow_string (P:=P) w t u ty e i (.int .u8 0) ht hu hi hz ⟨g,0,none⟩ n cap xs (by rw [hsize];simpa using hxl) holds s (by omega) (by omega) (by rw [hby];exact growslice_fits (by omega) (by omega));rw [hr2] at hr;injection hr with hv _;subst hv;exact Or.inr ⟨_,rfl,zQf _⟩
theorem zFZ (s:ByteArray):strCells s=Z9 s.data.toList:=by simp [strCells,Z9]
theorem zn.more {w w2:World} {tg:Tags} {o p id:Nat} {f:M.Fil} {bo ao:Option Addr} {bc cap:Nat} (h:zn w tg o p id f bo bc) (s:ByteArray)
  (hg:w.grownBy w2 (Value.slice bo f.bytes.length bc).ownBlock) (ho:w2.ownsRow 0 5 1 (.slice ao (f.bytes.length+s.size) cap) (f.bytes.length+s.size) (Z9 f.bytes++strCells s))
  (hw:(Value.slice ao (f.bytes.length+s.size) cap).ownBlock=(Value.slice bo f.bytes.length bc).ownBlock∨∃ g,(Value.slice ao (f.bytes.length+s.size) cap).ownBlock=some g∧w.heap.size≤g) :
  zn (w2.setCell ⟨p,0,none⟩ (.slice ao (f.bytes.length+s.size) cap)) (tg.more w.heap.size o (4+2*id)) o p id { f with bytes:=f.bytes++s.data.toList } ao cap∧w2.cell? ⟨p,0,none⟩=some (.slice bo f.bytes.length bc)∧w2.frozen? ⟨p,0,none⟩=false:=by
 have hpne:∀ g,(Value.slice bo f.bytes.length bc).ownBlock=some g→g≠p:=fun g hgb e=>by
  have h1:=h.tb g hgb;rw [e] at h1;exact Za h1 (by omega) h.tp
 have hpb:w2.heap[p]?=w.heap[p]?:=hg.block p h.top (fun e=>hpne p e.symm rfl);have hlen:(f.bytes++s.data.toList).length=f.bytes.length+s.size:=by rw [zQg,Array.length_toList];rfl
 have htb:∀ g,(Value.slice ao (f.bytes.length+s.size) cap).ownBlock=some g→(tg.more w.heap.size o (4+2*id)) g=(o,4+2*id):=fun g hgb=>by
  rcases zR8 g w.heap.size with hl|hl
  ·rw [Tags.zD hl];rcases hw with e|⟨g',e,h2⟩
   ·exact h.tb g (e.symm.trans hgb)
   ·rw [e] at hgb;injection hgb with hgb;omega
  ·exact Tags.zX hl
 have k0:=(zRc (a:=⟨p,0,none⟩) hpb).trans h.c0;have kf:=(zRf (a:=⟨p,0,none⟩) hpb).trans (h.fr 0);refine ⟨⟨by rw [hlen];exact zRd _ _ _ k0,by rw [zRb _ _ _ _ (by simp)];exact (zRc (a:=⟨p,1,none⟩) hpb).trans h.c1,fun j=>by rw [zRe];exact (zRf (a:=⟨p,j,none⟩) hpb).trans (h.fr j),?_,(Tags.zD h.top).trans h.tp,by rw [hlen];exact htb,?_⟩,k0,kf⟩
 ·rw [hlen];have e:Z9 (f.bytes++s.data.toList)=Z9 f.bytes++strCells s:=by rw [zFZ];simp [Z9]
  rw [e];refine zO ho (fun g hgb=>heap_setCell_other w2 ⟨p,0,none⟩ g _ (fun e=>?_));simp at e;have h1:=htb g hgb;rw [e,Tags.zD h.top] at h1;exact Za h1 (by omega) h.tp
 ·have:=hg.size;have:=h.top;simp;omega
theorem zC.more {w w2:World} {tg:Tags} {o d:Nat} {D:M.Dsk} {ids ps:List Nat} (h:zC w tg o d D ids ps) {i p id:Nat} {f:M.Fil} {bo ao:Option Addr} {bc cap:Nat} (hp:ps[i]?=some p) (hid:ids[i]?=some id) (hf:D.files[i]?=some f) (hF:zn w tg o p id f bo bc) (s:ByteArray)
  (hg:w.grownBy w2 (Value.slice bo f.bytes.length bc).ownBlock) (ho:w2.ownsRow 0 5 1 (.slice ao (f.bytes.length+s.size) cap) (f.bytes.length+s.size) (Z9 f.bytes++strCells s))
  (hw:(Value.slice ao (f.bytes.length+s.size) cap).ownBlock=(Value.slice bo f.bytes.length bc).ownBlock∨∃ g,(Value.slice ao (f.bytes.length+s.size) cap).ownBlock=some g∧w.heap.size≤g) :
  zx tg o d ⟨D.cap,D.files.modify i (fun f=>{ f with bytes:=f.bytes++s.data.toList }),D.dead,D.fuse⟩ w (w2.setCell ⟨p,0,none⟩ (.slice ao (f.bytes.length+s.size) cap)):=by
 have hb:∀ k,k<w.heap.size→tg k≠(o,3+2*id)→tg k≠(o,4+2*id)→(w2.setCell ⟨p,0,none⟩ (.slice ao (f.bytes.length+s.size) cap)).heap[k]?=w.heap[k]?:=fun k hk h1 h2=>by
  rw [heap_setCell_other w2 ⟨p,0,none⟩ k _ (fun e=>h1 (by simp at e;rw [e];exact hF.tp))];exact hg.block k hk (fun e=>h2 (hF.tb k e.symm))
 rw [M.YR _ hf];refine ⟨tg.more w.heap.size o (4+2*id),ids,ps,fun k hk=>Tags.zD hk,h.turn hp hid hf (by simpa using hg.size) (fun k hk=>Tags.zD hk) hb _ rfl (hF.more s hg ho hw).1,⟨hg.os,hg.tape,hg.output,by simpa using hg.size,fun k hk hn=>hb k hk (fun e=>hn (by rw [e])) (fun e=>hn (by rw [e]))⟩⟩
theorem zx.after {tg tg1:Tags} {o d:Nat} {D':M.Dsk} {w w1 w':World} (h:zx tg1 o d D' w1 w') (ho:Only o tg w w1) (ht:∀ k,k<w.heap.size→tg1 k=tg k):zx tg o d D' w w':=by
 obtain ⟨tg',ids',ps',a1,a2,a3⟩:=h;exact ⟨tg',ids',ps',fun k hk=>(a1 k (zQe hk ho.size)).trans (ht k hk),a2,⟨a3.os.trans ho.os,a3.tape.trans ho.tape,a3.output.trans ho.output,zQq ho.size a3.size,fun k hk hn=>(a3.block k (zQe hk ho.size) (by rw [ht k hk];exact hn)).trans (ho.block k hk hn)⟩⟩
theorem zGA (tg:Tags) (o d:Nat) (D:M.Dsk) (ids ps:List Nat) (hD:D.yD) (nm s:ByteArray) (hno:(D.chg (yY D nm s.size)).2≠0) (w:World) (h:zC w tg o d D ids ps) :
  Calls Tryz.prog 43 #[.pointer (some ⟨d,0,none⟩),.string nm,.string s] w fun e w'=>e=.returned (.int .i64 ((D.chg (yY D nm s.size)).2:Nat))∧zx tg o d (D.chg (yY D nm s.size)).1 w w':=by
 have HG:Hid _:=fun (_:Unit)=>zD6 tg o d D.files ps hD.sorted hD.good.few nm w h.map;have HC:Hid _:=fun (W:World) (hW:zC W tg o d D ids ps)=>YU tg o d D ids ps (yY D nm s.size) hD.fuse W hW;have HA:Hid _:=fun (W:World) (hW:zC W tg o d D ids ps)=>zAh tg o d D ids ps hD nm s.size W hW;have HD:Hid (zC w tg o d D ids ps):=h;obtain ⟨⟨E,c⟩,hE⟩:∃ p,D.chg (yY D nm s.size)=p:=⟨_,rfl⟩;rw [hE] at HC hno ⊢;simp only at HC hno ⊢;have hcb:((c:Int) == 0)=false:=by rw [zRU];omega
 obtain ⟨ac,hac⟩:∃ ac,yY D nm s.size=ac:=⟨_,rfl⟩;rw [hac] at HC HA;obtain ⟨pv,hpv⟩:∃ pv,zDu ps (M.place D.files nm)=pv:=⟨_,rfl⟩;rw [hpv] at HG;obtain ⟨pb,hpb⟩:∃ pb,(M.place D.files nm).isSome=pb:=⟨_,rfl⟩;rw [hpb] at HG HA;clear h hE hno hac hpv hpb;go_enter Tryz.func43,Tryz.ntmps43;go_wp2_with fail;refine (HG.out ()).mono ?_;rintro e w1 ⟨rfl,q1⟩;have HA1:Hid _:=fun (_:Unit)=>HA.out w1 (HD.out.kept q1);clear HG HA;go_wp2_with fail;refine (HA1.out ()).mono ?_;rintro e w2 ⟨rfl,q2⟩;have HC1:Hid _:=fun (_:Unit)=>HC.out w2 (HD.out.kept (q1.trans q2));clear HA1 HC;go_wp2_with fail;refine (HC1.out ()).mono ?_;rintro e w3 ⟨rfl,hL,hO⟩;have HEn:Hid (zx tg o d E w w3):=zx.same hL ((Only.yU (q1.trans q2)).trans hO);clear hL hO HC1;go_wp2_with fail;go_ret;exact ⟨rfl,HEn.out⟩
theorem zDI (tg:Tags) (o d:Nat) (D:M.Dsk) (ids ps:List Nat) (hD:D.yD) (nm s:ByteArray) (i:Nat) (E:M.Dsk) (hp:M.place D.files nm=some i) (hE:D.chg (yY D nm s.size)=(E,0)) (hsz:s.size≤1048576) (w:World) (h:zC w tg o d D ids ps) :
  Calls Tryz.prog 43 #[.pointer (some ⟨d,0,none⟩),.string nm,.string s] w fun e w'=>e=.returned (.int .i64 0)∧zx tg o d ⟨E.cap,E.files.modify i (fun f=>{ f with bytes:=f.bytes++s.data.toList }),E.dead,E.fuse⟩ w w':=by
 have HG:Hid _:=fun (_:Unit)=>zD6 tg o d D.files ps hD.sorted hD.good.few nm w h.map;have HC:Hid _:=fun (W:World) (hW:zC W tg o d D ids ps)=>YU tg o d D ids ps (yY D nm s.size) hD.fuse W hW;have HA:Hid _:=fun (W:World) (hW:zC W tg o d D ids ps)=>zAh tg o d D ids ps hD nm s.size W hW;have HD:Hid (zC w tg o d D ids ps):=h;obtain ⟨f,p,id,e1,e2,e3,e4,_⟩:=zAI h hp;have hfe:E.files=D.files:=by have:=YM D (yY D nm s.size);rw [hE] at this;exact this
 rw [hE] at HC;simp only at HC;obtain ⟨ac,hac⟩:∃ ac,yY D nm s.size=ac:=⟨_,rfl⟩;rw [hac] at HC HA;rw [hp,e4] at HG;rw [hp] at HA;have HP:Hid (ps[i]?=some p∧ids[i]?=some id∧E.files[i]?=some f):=⟨e2,e3,by rw [hfe];exact e1⟩;have hfl:f.bytes.length≤1048576:=hD.good.small (zQm e1);obtain ⟨i0,hi,hz0,hz1,hz2⟩:=info_parts zOT;clear h hE hac hp hfe e1 e2 e3 e4;go_enter Tryz.func43,Tryz.ntmps43;go_wp2_with fail;refine (HG.out ()).mono ?_;rintro e w1 ⟨rfl,q1⟩;have HA1:Hid _:=fun (_:Unit)=>HA.out w1 (HD.out.kept q1);simp only [zQs];clear HG HA;go_wp2_with fail;refine (HA1.out ()).mono ?_;rintro e w2 ⟨rfl,q2⟩;have HC1:Hid _:=fun (_:Unit)=>HC.out w2 (HD.out.kept (q1.trans q2));clear HA1 HC;go_wp2_with fail;refine (HC1.out ()).mono ?_;rintro e w3 ⟨rfl,hL,hO⟩;obtain ⟨bo,bc,hF⟩:=hL.file i p id f HP.out.1 HP.out.2.1 HP.out.2.2;have c0:=hF.c0;obtain ⟨v',w4,hrun,r1,r2,r3⟩:=zEc (P:=Tryz.prog) w3 88 9 88 5 i0 Tryz.underlying88 Tryz.underlying9 hi hz0 hz1 hz2 _ _ _ hF.own s (by simp [maxLen];omega) (by omega);obtain ⟨ao,cap,rfl⟩:=zJ r1;obtain ⟨_,k0,kf⟩:=hF.more s r2 r1 r3;have HEn:Hid _:=(hL.more HP.out.1 HP.out.2.1 HP.out.2.2 hF s r2 r1 r3).after ((Only.yU (q1.trans q2)).trans hO) (fun _ _=>rfl);clear hL hO HC1 hF r1 r2 r3;generalize f.bytes.length+s.size=n2 at *;generalize f.bytes.length=n1 at *;go_wp2_with (at_builtin;refine Lib.wpList_append_run _ rfl _ _ _ _ rfl _ _ rfl rfl _ _ hrun ?_);go_ret;exact ⟨rfl,HEn.out⟩
theorem zM4 (w:World) (tg:Tags) (o id:Nat) (nm:ByteArray) (t:TypeId) :
  zn (w.alloc (.cells #[.slice none 0 0,.int .i64 0] t)) (tg.more w.heap.size o (3+2*id)) o w.heap.size id ⟨nm,[],0⟩ none 0:=by
 refine ⟨by simp,by simp,fun j=>by simp,World.ownsRow_nil _ _ _ _,Tags.zX (zQf _),fun g hg=>by simp [Value.ownBlock] at hg,by simp⟩
theorem zKL {fs:List M.Fil} {nm:ByteArray} (hp:M.place fs nm=none) (s:List UInt8):(M.put fs ⟨nm,[],0⟩).modify (M.yK fs nm) (fun f=>{ f with bytes:=f.bytes++s })=M.put fs ⟨nm,s,0⟩∧(M.put fs ⟨nm,[],0⟩)[M.yK fs nm]?=some ⟨nm,[],0⟩:=by
 have h1:M.put fs ⟨nm,[],0⟩=zM fs (M.yK fs nm) ⟨nm,[],0⟩:=(M.zDs (f:=⟨nm,[],0⟩) hp).1;have h2:M.put fs ⟨nm,s,0⟩=zM fs (M.yK fs nm) ⟨nm,s,0⟩:=(M.zDs (f:=⟨nm,s,0⟩) hp).1;have hle:=M.zBP fs nm;rw [h1,h2];refine ⟨?_,Zz hle _⟩;rw [M.YR _ (Zz hle _),zMD hle];rfl
theorem zEp (tg:Tags) (o d:Nat) (D:M.Dsk) (ids ps:List Nat) (hD:D.yD) (nm s:ByteArray) (E:M.Dsk) (hp:M.place D.files nm=none) (hE:D.chg (yY D nm s.size)=(E,0)) (hsz:s.size≤1048576) (hok:M.zy nm=true) (w:World) (h:zC w tg o d D ids ps) :
  Calls Tryz.prog 43 #[.pointer (some ⟨d,0,none⟩),.string nm,.string s] w fun e w'=>e=.returned (.int .i64 0)∧zx tg o d ⟨E.cap,M.put E.files ⟨nm,s.data.toList,0⟩,E.dead,E.fuse⟩ w w':=by
 have HG:Hid _:=fun (_:Unit)=>zD6 tg o d D.files ps hD.sorted hD.good.few nm w h.map;have HC:Hid _:=fun (W:World) (hW:zC W tg o d D ids ps)=>YU tg o d D ids ps (yY D nm s.size) hD.fuse W hW;have HA:Hid _:=fun (W:World) (hW:zC W tg o d D ids ps)=>zAh tg o d D ids ps hD nm s.size W hW;have HD:Hid (zC w tg o d D ids ps):=h;have hfe:E.files=D.files:=by have:=YM D (yY D nm s.size);rw [hE] at this;exact this
 have hEF:E.yD:=by have:=hD.chg (yY D nm s.size);rw [hE] at this;exact this
 have hpE:M.place E.files nm=none:=by rw [hfe];exact hp
 rw [hE] at HC;simp only at HC;obtain ⟨ac,hac⟩:∃ ac,yY D nm s.size=ac:=⟨_,rfl⟩;rw [hac] at HC HA;rw [hp] at HG HA;have hlim:nm.size≤281474976710656:=by
  unfold M.zy at hok;simp at hok;omega
 obtain ⟨i0,hi,hz0,hz1,hz2⟩:=info_parts zOT;obtain ⟨id,hidn⟩:=zNj ids;have HX:Hid (E.yD∧M.place E.files nm=none∧id∉ids):=⟨hEF,hpE,hidn⟩;clear h hE hac hp hfe hEF hpE hok hidn;go_enter Tryz.func43,Tryz.ntmps43;go_wp2_with fail;refine (HG.out ()).mono ?_;rintro e w1 ⟨rfl,q1⟩;have HA1:Hid _:=fun (_:Unit)=>HA.out w1 (HD.out.kept q1);simp only [zDu,zR9];clear HG HA;go_wp2_with fail;refine (HA1.out ()).mono ?_;rintro e w2 ⟨rfl,q2⟩;have HC1:Hid _:=fun (_:Unit)=>HC.out w2 (HD.out.kept (q1.trans q2));clear HA1 HC;go_wp2_with fail;refine (HC1.out ()).mono ?_;rintro e w3 ⟨rfl,hL,hO⟩;have HL:Hid (zC w3 tg o d E ids ps):=hL;have HO:Hid (Only o tg w w3):=(Only.yU (q1.trans q2)).trans hO;have HPut:Hid (∀ W,Q (w3.alloc (.cells #[.slice none 0 0,.int .i64 0] 90)) W→Calls Tryz.prog 72 #[.pointer (some ⟨d,1,none⟩),.string nm,.pointer (some ⟨w3.heap.size,0,none⟩)] W fun e w'=>e=.returned (.tuple #[]) ∧
   ∃ tg' ids' ps',(∀ k,k<w.heap.size→tg' k=tg k)∧zC w' tg' o d ⟨E.cap,M.put E.files ⟨nm,[],0⟩,E.dead,E.fuse⟩ ids' ps'∧Only o tg w w'∧ids'[M.yK E.files nm]?=some id∧ps'[M.yK E.files nm]?=some w3.heap.size):=fun W hq=>by
  have hN:zC (w3.alloc (.cells #[.slice none 0 0,.int .i64 0] 90)) (tg.more w3.heap.size o (3+2*id)) o d E ids ps:=HL.out.keep (by simp) (fun k hk=>Tags.zD hk) (fun k hk _=>((Below.refl _ w3).alloc (zQf _) _).block k hk);have hW:=hN.kept hq;have hFN:=zM4 w3 tg o id nm 90;have hFW:=hFN.keep hq.below.size (tg':=tg.more w3.heap.size o (3+2*id)) (fun _ _=>rfl) (fun k hk _=>hq.below.block k hk);refine (zF5 (tg.more w3.heap.size o (3+2*id)) o d E.files ps HX.out.1.sorted HX.out.1.good.few nm w3.heap.size HX.out.2.1 W hW.map).mono ?_;rintro e w' ⟨rfl,hn⟩;obtain ⟨tg',a1,a2,a3⟩:=hW.zJG hFW HX.out.2.2 HX.out.2.1 hn;have hle:=M.zBP E.files nm;have hsW:w3.heap.size≤W.heap.size:=by have:=hq.below.size;simp at this;omega
  have hs1:w.heap.size≤W.heap.size:=zQq HO.out.size hsW;have hblk:∀ k,k<w3.heap.size→W.heap[k]?=w3.heap[k]?:=fun k hk=>(hq.below.block k (by simp;omega)).trans (((Below.refl _ w3).alloc (zQf _) _).block k hk);refine ⟨rfl,tg',_,_,fun k hk=>(a1 k (zQe hk hs1)).trans (Tags.zD (zQe hk HO.out.size)),a2,⟨a3.os.trans (hq.below.os.trans HO.out.os),a3.tape.trans (hq.below.tape.trans HO.out.tape),a3.output.trans (hq.below.output.trans HO.out.output),zQq hs1 a3.size,fun k hk hn=>?_⟩,Zz (show M.yK E.files nm≤ids.length by rw [HL.out.lenI];exact hle) _,Zz (show M.yK E.files nm≤ps.length by have:=HL.out.map.len;simp at this;omega) _⟩;rw [a3.only.block k (zQe hk hs1) (by rw [Tags.zD (zQe hk HO.out.size)];exact hn),hblk k (zQe hk HO.out.size)];exact HO.out.block k hk hn
 have HPM:Hid _:=zKL HX.out.2.1 s.data.toList;clear HC1 hL hO HL HO HX HD;go_upto_region 7 with fail
 go_region_held3 (fun _=>True) (exact trivial)
  (first
   | (go_at_call 47;refine (Zf nm _ hlim).mono ?_;rintro e w6 ⟨rfl,b6⟩;have hS6:True:=trivial)
   | (go_at_call 72;refine (HPut.out w6 (((Q.refl _).drew).trans ⟨b6⟩)).mono ?_;rintro e w7 ⟨rfl,hEn⟩;have HEn:Hid _:=hEn;clear hEn))
 obtain ⟨tg7,ids7,ps7,y1,y2,y3,y4,y5⟩:=HEn.out;obtain ⟨bo,bc,hF⟩:=y2.file _ _ _ _ y5 y4 HPM.out.2;have c0:=hF.c0;obtain ⟨v',w8,hrun,r1,r2,r3⟩:=zEc (P:=Tryz.prog) w7 88 9 88 5 i0 Tryz.underlying88 Tryz.underlying9 hi hz0 hz1 hz2 _ _ _ hF.own s (by show 0+s.size≤maxLen;simp [maxLen];omega) (by show 0+s.size≤140737488355328;omega);obtain ⟨ao,cap,rfl⟩:=zJ r1;obtain ⟨_,k0,kf⟩:=hF.more s r2 r1 r3;have HEn2:Hid (zx tg o d ⟨E.cap,M.put E.files ⟨nm,s.data.toList,0⟩,E.dead,E.fuse⟩ w (w8.setCell ⟨w3.heap.size,0,none⟩ (.slice ao (0+s.size) cap))):=by
  have:=(y2.more y5 y4 HPM.out.2 hF s r2 r1 r3).after y3 y1;simp only [HPM.out.1] at this;exact this
 simp only [zQr,zR5] at c0 hrun k0 HEn2;clear HEn y1 y2 y3 y4 y5 hF r1 r2 r3 HPM HPut;go_wp2_with (at_builtin;refine Lib.wpList_append_run _ rfl _ _ _ _ rfl _ _ rfl rfl _ _ hrun ?_);go_ret;exact ⟨rfl,HEn2.out⟩
theorem zCs (tg:Tags) (o d:Nat) (D:M.Dsk) (ids ps:List Nat) (hD:D.yD) (nm s:ByteArray) (w:World) (h:zC w tg o d D ids ps) :
  Calls Tryz.prog 43 #[.pointer (some ⟨d,0,none⟩),.string nm,.string s] w fun e w'=>e=.returned (.int .i64 ((D.append nm s.data.toList).2:Nat))∧zx tg o d (D.append nm s.data.toList).1 w w':=by
 have hsl:s.data.toList.length=s.size:=by rw [Array.length_toList];rfl
 rw [zL7,hsl];by_cases hc:(D.chg (yY D nm s.size)).2=0
 ·obtain ⟨⟨E,c⟩,hE⟩:∃ p,D.chg (yY D nm s.size)=p:=⟨_,rfl⟩;have hz:=(zDU hc).1;rw [hE] at hc ⊢;simp only at hc;subst hc;have hfe:E.files=D.files:=by have:=YM D (yY D nm s.size);rw [hE] at this;exact this
  have hok:M.zy nm=true:=by
   cases hx:M.zy nm
   ·unfold yY at hz;rw [if_pos hx] at hz;simp at hz
   ·rfl
  have hroom:M.total D.files+s.size≤D.cap:=by
   unfold yY at hz;rw [hok] at hz;simp only [Bool.true_eq_false,if_false] at hz;split at hz
   ·simp at hz
   ·rename_i hn;rcases zR8 D.cap (M.total D.files+s.size) with e|e
    ·exact absurd (Or.inl e) hn
    ·exact e
  have hsz:s.size≤1048576:=by have:=hD.good.cap;omega
  simp only [hfe]
  cases hp:M.place D.files nm with
  | some i =>
   have:=zDI tg o d D ids ps hD nm s i E hp hE hsz w h;rw [hfe] at this;exact this
  | none =>
   have:=zEp tg o d D ids ps hD nm s E hp hE hsz hok w h;rw [hfe] at this;exact this
 ·have:=zGA tg o d D ids ps hD nm s hc w h;obtain ⟨⟨E,c⟩,hE⟩:∃ p,D.chg (yY D nm s.size)=p:=⟨_,rfl⟩;rw [hE] at this hc ⊢
  cases c with
  | zero=>exact absurd rfl hc
  | succ c=>exact this
end Go.Proofs.YtekdenkllipehabGreatDoor
namespace Go.Proofs.YtekdenkllipehabGreatDoor
open Go.RowKit
def zCA (keep:Int) (loose:Nat):Nat:=if 0<keep then keep.toNat % (loose+1) else 0
def ZO (keep:Int) (f:M.Fil):M.Fil:=⟨f.name,f.bytes.take (f.synced+zCA keep (f.bytes.length-f.synced)),f.synced+zCA keep (f.bytes.length-f.synced)⟩
theorem zGi (keep:Int) (loose:Nat):zCA keep loose≤loose:=by
 unfold zCA;split
 ·have:=Nat.mod_lt keep.toNat (show 0<loose+1 by omega);omega
 ·omega
theorem zK5 (keep:Int) (loose:Nat):(max keep 0).tmod ((loose:Int)+1)=(zCA keep loose:Nat):=by
 unfold zCA;split
 ·rename_i h;obtain ⟨k,rfl⟩:=Int.eq_ofNat_of_zero_le (show 0≤keep by omega);rw [Int.max_eq_left (by omega)];simp only [zRA];rfl
 ·rw [Int.max_eq_right (by omega)];simp
theorem zn.cut {w:World} {tg:Tags} {o p id:Nat} {f:M.Fil} {bo:Option Addr} {bc:Nat} (h:zn w tg o p id f bo bc) (n:Nat) (hn:n≤f.bytes.length) :
  zn ((w.setCell ⟨p,1,none⟩ (.int .i64 (n:Int))).setCell ⟨p,0,none⟩ (.slice bo n bc)) tg o p id ⟨f.name,f.bytes.take n,n⟩ bo bc:=by
 have hlen:(f.bytes.take n).length=n:=by simp;omega
 have htb:∀ g,(Value.slice bo n bc).ownBlock=some g→tg g=(o,4+2*id):=fun g hg=>h.tb g (by cases bo with | none=>simp [Value.ownBlock] at hg | some a=>exact hg);refine ⟨by rw [hlen];exact zRd _ _ _ (by rw [zRb _ _ _ _ (by simp)];exact h.c0),by rw [zRb _ _ _ _ (by simp)];exact zRd _ _ _ h.c1,fun j=>by rw [zRe,zRe];exact h.fr j,?_,h.tp,by rw [hlen];exact htb,by simpa using h.top⟩;rw [hlen];have hrow:w.ownsRow 0 5 1 (.slice bo n bc) n (Z9 (f.bytes.take n)):=by
  refine ⟨by simp [Z9];omega,?_⟩;rcases h.own.2 with ⟨hv,h0⟩|⟨g,c,cur,hv,hg,hh,h1,h2,h3,h4⟩
  ·injection hv with e1 e2 e3;subst e1 e3;have:n=0:=by omega
   subst this;exact Or.inl ⟨rfl,rfl⟩
  ·injection hv with e1 e2 e3;subst e1 e3;refine Or.inr ⟨g,bc,cur,rfl,hg,hh,by omega,h2,h3,?_⟩;rw [Nat.mul_one] at h4 ⊢;have:cur.toList.take n=(cur.toList.take f.bytes.length).take n:=by rw [List.take_take,Nat.min_eq_left hn]
   rw [this,h4];simp [Z9,List.map_take]
 refine zO hrow (fun g hg=>?_);have hne:g≠p:=fun e=>by have h1:=htb g hg;rw [e] at h1;exact Za h1 (by omega) h.tp
 rw [heap_setCell_other _ ⟨p,0,none⟩ g _ hne,heap_setCell_other _ ⟨p,1,none⟩ g _ hne]
theorem zn.zOU {w w':World} {tg:Tags} {o p id:Nat} {f:M.Fil} {bo:Option Addr} {bc:Nat} (h:zn w tg o p id f bo bc) (e:w'.heap=w.heap):zn w' tg o p id f bo bc:=
 h.keep (by rw [e];exact zQf _) (fun _ _=>rfl) (fun k _ _=>by rw [e])
theorem zKk {w a b:World} {row:Option Nat} (h:w.grownBy a row) (e:b.heap=a.heap) (e1:b.os=a.os) (e2:b.tape=a.tape) (e3:b.output=a.output):w.grownBy b row:=
 ⟨e1.trans h.os,e2.trans h.tape,e3.trans h.output,by rw [e];exact h.size,fun k hk hn=>by rw [e];exact h.block k hk hn⟩
theorem zMS (tg:Tags) (o p id:Nat) (f:M.Fil) (bo:Option Addr) (bc:Nat) (keep:Int) (hs:f.synced≤f.bytes.length) (hl:f.bytes.length≤1048576) (w:World) (h:zn w tg o p id f bo bc) :
  Calls Tryz.prog 50 #[.pointer (some ⟨p,0,none⟩),.int .i64 keep] w fun e w'=>e=.returned (.tuple #[])∧zn w' tg o p id (ZO keep f) bo bc∧w.grownBy w' (some p):=by
 obtain ⟨loose,hlo⟩:∃ loose,f.bytes.length-f.synced=loose:=⟨_,rfl⟩;obtain ⟨st,hst⟩:∃ st,zCA keep loose=st:=⟨_,rfl⟩;have hle:=zGi keep loose;have hti:=zK5 keep loose;rw [hst] at hle hti;have HF:Hid _:=h.cut (f.synced+st) (by omega);have HG:Hid (w.grownBy ((w.setCell ⟨p,1,none⟩ (.int .i64 ((f.synced+st:Nat):Int))).setCell ⟨p,0,none⟩ (.slice bo (f.synced+st) bc)) (some p)):=⟨rfl,rfl,rfl,by simp,fun k _ hn=>by
  have hne:k≠p:=fun e=>hn (by rw [e]);rw [heap_setCell_other _ ⟨p,0,none⟩ k _ hne,heap_setCell_other _ ⟨p,1,none⟩ k _ hne]⟩
 have c0:=h.c0;have c1:=h.c1;have f0:=h.fr 0;have f1:=h.fr 1;have hcr:ZO keep f=⟨f.name,f.bytes.take (f.synced+st),f.synced+st⟩:=by unfold ZO;rw [hlo,hst]
 rw [hcr];have hcap:f.synced+st≤bc:=by
  rcases h.own.2 with ⟨hv,h0⟩|⟨g,c,cur,hv,_,_,hc,_⟩
  ·omega
  ·injection hv with _ _ e3;omega
 clear h hcr;generalize f.bytes.length=len at *;generalize f.synced=sy at *;have w1:IntKind.i64.wrap ((len:Int)-(sy:Int))=(loose:Int):=by rw [IntKind.wrap_i64];omega
 have w2:IntKind.i64.wrap ((loose:Int)+1)=(loose:Int)+1:=by rw [IntKind.wrap_i64];omega
 have w3:IntKind.i64.wrap ((sy:Int)+(st:Int))=((sy+st:Nat):Int):=by rw [IntKind.wrap_i64];omega
 clear hlo hst hle hs hl;go_enter Tryz.func50,Tryz.ntmps50;go_wp2_with fail;go_quiet (fail);go_wp2_with fail
 go_region
 go_wp2_with fail
 go_region
 all_goals (go_wp2_with fail)
 all_goals go_end0
 all_goals exact ⟨rfl,HF.out.zOU rfl,zKk HG.out rfl rfl rfl rfl⟩
end Go.Proofs.YtekdenkllipehabGreatDoor
namespace Go.Proofs.YtekdenkllipehabGreatDoor
open Go.RowKit Go.Shelf
attribute [local go_sem] Oper.semAt_some
def YV (ks:List Int) (pre:List Nat) (fs:List M.Fil):List M.Fil:=pre.zipIdx.foldl (fun l x=>l.modify x.1 (ZO (ks.getD x.2 0))) fs
theorem zDC (ks:List Int) (pre:List Nat) (x:Nat) (fs:List M.Fil):YV ks (pre++[x]) fs=(YV ks pre fs).modify x (ZO (ks.getD pre.length 0)):=by
 simp [YV,List.zipIdx_append]
theorem zEX (ks:List Int) (fs:List M.Fil):∀ n k,(YV ks (List.range n) fs)[k]?=if k<n then (fs[k]?).map (ZO (ks.getD k 0)) else fs[k]?
 | 0,k=>by simp [YV]
 | n+1,k=>by
  rw [List.range_succ,zDC,List.getElem?_modify,zEX ks fs n k,List.length_range];by_cases h1:k<n
  ·have h2:¬n=k:=by omega
   rw [if_pos h1,if_pos (show k<n+1 by omega)]
   cases fs[k]? with
   | none=>rfl
   | some g=>simp [h2]
  ·by_cases h2:k=n
   ·subst h2;rw [if_neg h1,if_pos (show k<k+1 by omega)]
    cases fs[k]? with
    | none=>rfl
    | some g=>simp
   ·have h3:¬n=k:=by omega
    rw [if_neg h1,if_neg (show ¬k<n+1 by omega)]
    cases fs[k]? with
    | none=>rfl
    | some g=>simp [h3]
theorem zG2 (n:Nat):((List.finRange n).map fun x=>x.1)=List.range n:=by
 apply List.ext_getElem (by simp);intro i h1 h2;simp
theorem zKz (ks:List Int) (i:Nat) (f:M.Fil):M.yw ks i f=ZO (ks.getD i 0) f:=by
 have hst:∀ l,M.stay ks i l=zCA (ks.getD i 0) l:=fun l=>by
  unfold M.stay zCA;rw [List.getD_eq_getElem?_getD]
  cases ks[i]? with
  | none=>simp
  | some k=>rfl
 unfold M.yw ZO;rw [hst]
theorem zIj (ks:List Int) (fs:List M.Fil):YV ks (List.range fs.length) fs=fs.mapIdx (M.yw ks):=by
 apply List.ext_getElem?;intro k;rw [zEX,List.getElem?_mapIdx];by_cases h:k<fs.length
 ·rw [if_pos h,zQc h];simp [zKz]
 ·rw [if_neg h,zRX (Nat.le_of_not_lt h)];rfl
theorem zHV (ks:List Int) {fs:List M.Fil} (hs:∀ f∈fs,f.synced≤f.bytes.length∧f.bytes.length≤1048576) (pre:List Nat):(YV ks pre fs).length=fs.length∧∀ f∈YV ks pre fs,f.synced≤f.bytes.length∧f.bytes.length≤1048576:=by
 unfold YV;generalize pre.zipIdx=l
 induction l generalizing fs with
 | nil=>exact ⟨rfl,hs⟩
 | cons x l ih =>
  have h1:=ih (fs:=fs.modify x.1 (ZO (ks.getD x.2 0))) (fun f hf=>by
   obtain ⟨i,hi⟩:=List.getElem?_of_mem hf;rw [List.getElem?_modify] at hi
   cases hx:fs[i]? with
   | none=>rw [hx] at hi;simp at hi
   | some g =>
    rw [hx] at hi;have hg:=hs g (zQm hx);have hst:=zGi (ks.getD x.2 0) (g.bytes.length-g.synced);simp only [Option.map_eq_map,zRM,zQj] at hi;split at hi
    ·subst hi;simp only [ZO,zRR];omega
    ·subst hi;exact hg)
  simp only [List.foldl_cons];exact ⟨h1.1.trans (by simp),h1.2⟩
structure zAl (w:World) (tg:Tags) (o d:Nat) (D:M.Dsk) (ids ps:List Nat) (ks:List Int) (kv:Value) (pre:List Nat) (W:World):Prop where
 disk:zC W (tg.more w.heap.size (o+1) 0) o d ⟨D.cap,YV ks pre D.files,D.dead,D.fuse⟩ ids ps
 bk:W.heap[w.heap.size]?=some (.cells #[kv] 51 (0,0))
 bi:W.heap[w.heap.size+1]?=some (.cells #[.int .i64 (pre.length:Nat)] 3 (0,0))
 only:Only o tg w W
 bs:w.heap.size+1+1<W.heap.size
theorem Only.grown {o:Nat} {tg:Tags} {w W W':World} (h:Only o tg w W) {row:Option Nat} (hg:W.grownBy W' row) (hr:∀ r,row=some r→w.heap.size≤r):Only o tg w W':=
 ⟨hg.os.trans h.os,hg.tape.trans h.tape,hg.output.trans h.output,zQq h.size hg.size,fun k hk hn=>(hg.block k (zQe hk h.size) (fun e=>by have:=hr k e.symm;omega)).trans (h.block k hk hn)⟩
theorem zAl.kept {w:World} {tg:Tags} {o d:Nat} {D:M.Dsk} {ids ps:List Nat} {ks:List Int} {kv:Value} {pre:List Nat} {W W':World} (h:zAl w tg o d D ids ps ks kv pre W) {row:Option Nat} (hg:W.grownBy W' row) (hr:∀ r,row=some r→w.heap.size+1<r):zAl w tg o d D ids ps ks kv pre W':=by
 refine ⟨h.disk.keep hg.size (fun _ _=>rfl) (fun k hk e=>hg.block k hk (fun er=>?_)),(hg.block _ (zQh.1 h.bk).1 (fun e=>by have:=hr _ e.symm;omega)).trans h.bk,(hg.block _ (zQh.1 h.bi).1 (fun e=>by have:=hr _ e.symm;omega)).trans h.bi,h.only.grown hg (fun r e=>by have:=hr r e;omega),zQe h.bs hg.size⟩;have:=hr k er.symm;rw [Tags.zX (by omega)] at e;simp at e
theorem zAl.next {w:World} {tg:Tags} {o d:Nat} {D:M.Dsk} {ids ps:List Nat} {ks:List Int} {kv:Value} {pre:List Nat} {W w4:World} (h:zAl w tg o d D ids ps ks kv pre W) {x p id:Nat} {f:M.Fil} {bo:Option Addr} {bc:Nat} (hp:ps[x]?=some p) (hid:ids[x]?=some id) (hf:(YV ks pre D.files)[x]?=some f)
  (hpw:p<w.heap.size) (htp:tg p=(o,3+2*id)) (hF:zn w4 (tg.more w.heap.size (o+1) 0) o p id (ZO (ks.getD pre.length 0) f) bo bc) (hg:W.grownBy w4 (some p)) :
  zAl w tg o d D ids ps ks kv (pre++[x]) (w4.setCell ⟨w.heap.size+1,0,none⟩ (.int .i64 ((pre.length+1:Nat):Int)))∧KeepsFrom (w.heap.size+1+1+1) W (w4.setCell ⟨w.heap.size+1,0,none⟩ (.int .i64 ((pre.length+1:Nat):Int))) ∧
   y7 (zH7 tg o (w.heap.size+1+1) w.heap.size) W (w4.setCell ⟨w.heap.size+1,0,none⟩ (.int .i64 ((pre.length+1:Nat):Int)))∧w4.cell? ⟨w.heap.size+1,0,none⟩=some (.int .i64 (pre.length:Nat))∧w4.frozen? ⟨w.heap.size+1,0,none⟩=false:=by
 have hblk:∀ k,k<W.heap.size→k≠p→w4.heap[k]?=W.heap[k]?:=fun k hk hn=>hg.block k hk (fun e=>hn (by injection e));have hbi4:w4.heap[w.heap.size+1]?=some (.cells #[.int .i64 (pre.length:Nat)] 3 (0,0)):=(hblk _ (zQh.1 h.bi).1 (by omega)).trans h.bi;have hbk4:w4.heap[w.heap.size]?=some (.cells #[kv] 51 (0,0)):=(hblk _ (zQh.1 h.bk).1 (by omega)).trans h.bk;have htp':(tg.more w.heap.size (o+1) 0) p=(o,3+2*id):=(Tags.zD hpw).trans htp;have hne:∀ k,k≠w.heap.size+1→(w4.setCell ⟨w.heap.size+1,0,none⟩ (.int .i64 ((pre.length+1:Nat):Int))).heap[k]?=w4.heap[k]?:=fun k hk=>heap_setCell_other w4 ⟨w.heap.size+1,0,none⟩ k _ hk;have hs:W.heap.size≤(w4.setCell ⟨w.heap.size+1,0,none⟩ (.int .i64 ((pre.length+1:Nat):Int))).heap.size:=by simpa using hg.size
 refine ⟨⟨?_,?_,?_,?_,zQe h.bs hs⟩,⟨hs,fun k ob h1 h2 h3=>?_⟩,⟨hs,fun k hk=>?_⟩,by simp [World.cell?,hbi4],frozen_of_row w4 _ 0 _ _ hbi4⟩
 ·have t1:=h.disk.turn (w':=w4) (tg':=tg.more w.heap.size (o+1) 0) hp hid hf hg.size (fun _ _=>rfl) (fun k hk h1 _=>hblk k hk (fun e=>h1 (by rw [e];exact htp'))) (ZO (ks.getD pre.length 0) f) rfl hF;rw [zDC,M.YR _ hf];refine t1.keep (by simp) (fun _ _=>rfl) (fun k _ e=>hne k (fun er=>?_));subst er;rw [Tags.zX (by omega)] at e;simp at e
 ·rw [hne _ (by omega)];exact hbk4
 ·rw [zQg];exact zCW _ hbi4
 ·exact ⟨hg.os.trans h.only.os,hg.tape.trans h.only.tape,hg.output.trans h.only.output,zQq h.only.size hs,fun k hk hn=>by
   rw [hne k (by omega),hblk k (zQe hk h.only.size) (fun e=>hn (by rw [e,htp]))];exact h.only.block k hk hn⟩
 ·rw [hne k (by omega),hblk k (zQh.1 h2).1 (by omega)];exact h2
 ·rcases hk with rfl|⟨hlt,ht⟩
  ·rw [hne _ (by omega)];exact hblk _ h.bs (by omega)
  ·rw [hne k (by omega)];exact hblk k (zQe hlt h.only.size) (fun e=>by
    rw [e,htp] at ht;rcases ht with e | e | e<;>· injection e with _ e1;omega)
def zMq (w:World) (tg:Tags) (o:Nat) (ks:List Int) (ko:Option Addr):Prop:=∀ j x,ks[j]?=some x→∃ b off,ko=some ⟨b,off,none⟩∧w.cell? ⟨b,off+j,none⟩=some (.int .i64 x)∧b<w.heap.size∧(tg b).1≠o
theorem zHT (tg:Tags) (o d:Nat) (D:M.Dsk) (ids ps:List Nat) (hD:D.yD) (ks:List Int) (ko:Option Addr) (kc:Nat) (w:World) (hk:zMq w tg o ks ko) (h:zC w tg o d D ids ps) :
  Calls Tryz.prog 25 #[.pointer (some ⟨d,0,none⟩),.slice ko ks.length kc] w fun e w'=>e=.returned (.tuple #[])∧zx tg o d (D.zC1 ks) w w':=by
 have hl:=hD.good.few;have HK:Hid (zMq w tg o ks ko):=hk;obtain ⟨wl,hwl⟩:∃ wl,wl=((w.alloc (.cells #[.slice ko ks.length kc] 51)).alloc (.cells #[.int .i64 0] 3)).alloc (.cells #[.pointer (some ⟨d,1,none⟩)] 120):=⟨_,rfl⟩;have hsl:wl.heap.size=w.heap.size+1+1+1:=by rw [hwl];simp
 have hQ:Q w wl:=by rw [hwl];exact (((Q.refl w).alloc _ _).alloc _ _).alloc _ _
 have hb0:wl.heap[w.heap.size]?=some (.cells #[.slice ko ks.length kc] 51 (0,0)):=by
  have h1:=heap_alloc_new w (.cells #[.slice ko ks.length kc] 51);have h2:=((Below.refl _ (w.alloc (.cells #[.slice ko ks.length kc] 51))).alloc (zQf _) (.cells #[.int .i64 0] 3)).alloc (by simp) (.cells #[.pointer (some ⟨d,1,none⟩)] 120);rw [hwl,h2.block w.heap.size (by simp)];exact h1
 have hb1:wl.heap[w.heap.size+1]?=some (.cells #[.int .i64 0] 3 (0,0)):=by
  have h1:=heap_alloc_new (w.alloc (.cells #[.slice ko ks.length kc] 51)) (.cells #[.int .i64 0] 3);rw [zRg] at h1;have h2:=(Below.refl _ ((w.alloc (.cells #[.slice ko ks.length kc] 51)).alloc (.cells #[.int .i64 0] 3))).alloc (zQf _) (.cells #[.pointer (some ⟨d,1,none⟩)] 120);rw [hwl,h2.block (w.heap.size+1) (by simp)];exact h1
 have hb2:wl.heap[w.heap.size+1+1]?=some (.cells #[.pointer (some ⟨d,1,none⟩)] 120 (0,0)):=by
  have h1:=heap_alloc_new ((w.alloc (.cells #[.slice ko ks.length kc] 51)).alloc (.cells #[.int .i64 0] 3)) (.cells #[.pointer (some ⟨d,1,none⟩)] 120);rw [zRg,zRg] at h1;rw [hwl];exact h1
 have hgood:∀ f∈D.files,f.synced≤f.bytes.length∧f.bytes.length≤1048576:=fun f hf=>⟨hD.good.synced f hf,hD.good.small hf⟩;refine (callsIn_wide (n:=6)).1 ?_;refine callsIn_of_wp_marks Tryz.func25 rfl trivial ?_ rfl;simp only [Tryz.ntmps25,zR7,zQl,zQr,Nat.reduceAdd,Nat.reduceSub,zR4,zR3,zRD,zR6,zQw,zQy]
 gi_wp2_with (refine ⟨trivial,?_⟩;gi_at_call 38;refine (all_in _ _ _).mono ?_;rintro e w' ⟨rfl,rfl⟩)
 rw [←hwl];clear hwl;refine wpIn_rangeFunc_ownG rfl (by decide) (gf:=61) (lb:=#[.pointer (some ⟨w.heap.size+1+1,0,none⟩)]) (by simp [Act.eval]) trivial (enters_of Tryz.func61 (by kernel_rfl) rfl)
  (all_stops tg o d D.files ps hl 5 (by decide) (w.heap.size+1+1) w wl h.map hQ (by simp [World.cell?,hb2]) (by omega)) (fun h k=>y7.trans h k) (y7.put (fun k hk=>hk.elim (fun e=>by omega) (fun e=>by have:=e.1;omega))) (Below.refl _ _) (fun _=>rfl)
  (fun pre W=>zAl w tg o d D ids ps ks (.slice ko ks.length kc) (pre.map fun x=>x.1) W)
  (fun _ _ _=>False) ?hI (fun _ _ _ _ _ hs _ _=>hs) ?h0
  (fun x=>{ tmps:=#[.pointer (some ⟨d,0,none⟩),.slice ko ks.length kc,undef,.pointer (some ⟨w.heap.size,0,none⟩),.pointer (some ⟨w.heap.size+1,0,none⟩),undef,.pointer (some ⟨ps[x.1]?.getD 0,0,none⟩),undef,.pointer (some ⟨d,0,none⟩),.pointer (some ⟨d,0,none⟩),.pointer (some ⟨d,1,none⟩),.func (.func 61) #[] #[.pointer (some ⟨w.heap.size+1+1,0,none⟩)],.string D.files[x.1].name,.pointer (some ⟨ps[x.1]?.getD 0,0,none⟩),undef,undef,undef,undef,undef,undef,undef,undef,undef,undef,undef,undef,undef,undef,undef,undef,undef,undef,undef],defers:=[]}) ?assign ?body ?done ?stop
 case hI =>
  intro pre A B row hs hg hr;exact hs.kept hg (fun r e=>by have:=(hr r e).1;omega)
 case h0=>exact ⟨h.keep hQ.below.size (fun k hk=>Tags.zD hk) (fun k hk _=>hQ.below.block k hk),hb0,hb1,Only.yU hQ,by omega⟩
 case assign =>
  intro l x W K hK;simp only [mapEntry];gi_wp2;exact hK
 case body =>
  rintro l pre x W hC hlen;have hx:x.1<ps.length:=by have:=h.map.len;simp at this;have:=x.2;omega
  have hxi:x.1<ids.length:=by rw [h.lenI];exact x.2
  obtain ⟨_,_,hFw⟩:=h.file x.1 _ _ _ (zQc hx) (zQc hxi) (zQc x.2);have hlp:(pre.map fun x=>x.1).length=pre.length:=by simp
  obtain ⟨pr,hpr⟩:∃ pr,(pre.map fun x=>x.1)=pr:=⟨_,rfl⟩;have hpr2:((pre++[x]).map fun x=>x.1)=pr++[x.1]:=by rw [←hpr];simp
  rw [hpr] at hC hlp;obtain ⟨hgl,hgm⟩:=zHV ks hgood pr;have hxc:x.1<(YV ks pr D.files).length:=by rw [hgl];exact x.2
  obtain ⟨f,hf⟩:∃ f,(YV ks pr D.files)[x.1]?=some f:=⟨_,zQc hxc⟩;have hfg:=hgm f (zQm hf);obtain ⟨bo,bc,hF⟩:=hC.disk.file x.1 _ _ _ (zQc hx) (zQc hxi) hf;have hpe:ps[x.1]?.getD 0=ps[x.1]:=by simp [List.getElem?_eq_getElem hx]
  rw [hpe];have hpx:=zQc hx;have hix:=zQc hxi;have hpw:=hFw.top;have htp:=hFw.tp;generalize ps[x.1]=p at *;generalize ids[x.1]=id at *;have HFC:Hid _:=fun (W':World) (e:W'.heap=W.heap)=>zMS (tg.more w.heap.size (o+1) 0) o p id f bo bc (ks.getD pr.length 0) hfg.1 hfg.2 W' (hF.zOU e);have HNX:Hid _:=fun (w4:World) (a:zn w4 (tg.more w.heap.size (o+1) 0) o p id (ZO (ks.getD pr.length 0) f) bo bc) (b:W.grownBy w4 (some p))=>hC.next hpx hix hf hpw htp a b;have k0:W.cell? ⟨w.heap.size,0,none⟩=some (.slice ko ks.length kc):=by simp [World.cell?,hC.bk]
  have k1:W.cell? ⟨w.heap.size+1,0,none⟩=some (.int .i64 (pr.length:Nat)):=by simp [World.cell?,hC.bi]
  have hprl:pr.length<64:=by omega
  have hwr:IntKind.i64.wrap ((pr.length:Int)+1)=(pr.length:Int)+1:=by rw [IntKind.wrap_i64];omega
  have hcast:((pr.length+1:Nat):Int)=(pr.length:Int)+1:=by omega
  have HC:Hid _:=hC;have HPR:Hid _:=hpr2;have HDW:Hid (w.heap.size+1<W.heap.size):=by have:=hC.bs;show _<_;omega
  clear hQ h hFw hC hF hgm hfg hb0 hb1 hb2 hpx hix hf hpw htp hpr hpr2 hgood hgl hxc hx hxi hpe hlp hlen;by_cases hik:pr.length<ks.length
  ·obtain ⟨b,off,hko,hcell,hbw,hbo⟩:=HK.out pr.length _ (zQc hik);subst hko;have hcW:W.cell? ⟨b,off+pr.length,none⟩=some (.int .i64 ks[pr.length]):=(zRc (a:=⟨b,off+pr.length,none⟩) (HC.out.only.block b hbw hbo)).trans hcell;have hgd:ks.getD pr.length 0=ks[pr.length]:=by simp [List.getD,List.getElem?_eq_getElem hik]
   rw [hgd] at HFC HNX;generalize ks[pr.length]=kx at *;have i1:(pr.length:Int)<(ks.length:Int):=by omega
   have i2:decide ((pr.length:Int)<(ks.length:Int))=true:=by rw [zRa];omega
   clear hcell hgd HC
   gi_wp2_with (refine ⟨trivial,?_⟩;gi_at_call 50;refine (CallsIn.inRound l (callsIn_wide.2 (HFC.out _ rfl))).mono ?_;rintro e w4 ⟨rfl,a4,g4⟩;obtain ⟨z1,z2,z3,z4,z5⟩:=HNX.out w4 a4 g4;have HZ:Hid _:=And.intro z1 (And.intro z2 z3);clear z1 z2 z3 a4 g4)
   rw [hcast] at HZ;exact ⟨by rw [hsl];exact HZ.out.2.1,HZ.out.2.2,by show zAl _ _ _ _ _ _ _ _ _ ((pre++[x]).map fun x=>x.1) _;rw [HPR.out];exact HZ.out.1⟩
  ·have hgd:ks.getD pr.length 0=0:=by simp [List.getD,List.getElem?_eq_none (Nat.le_of_not_lt hik)]
   rw [hgd] at HFC HNX;have i2:decide ((pr.length:Int)<(ks.length:Int))=false:=by rw [decide_eq_false_iff_not];omega
   clear hgd HC
   gi_wp2_with (refine ⟨trivial,?_⟩;gi_at_call 50;refine (CallsIn.inRound l (callsIn_wide.2 (HFC.out _ rfl))).mono ?_;rintro e w4 ⟨rfl,a4,g4⟩;obtain ⟨z1,z2,z3,z4,z5⟩:=HNX.out w4 a4 g4;have HZ:Hid _:=And.intro z1 (And.intro z2 z3);clear z1 z2 z3 a4 g4)
   rw [hcast] at HZ;exact ⟨by rw [hsl];exact HZ.out.2.1,HZ.out.2.2,by show zAl _ _ _ _ _ _ _ _ _ ((pre++[x]).map fun x=>x.1) _;rw [HPR.out];exact HZ.out.1⟩
 case done =>
  rintro E ys W hE rfl hC hK;rw [zG2] at hC;have hd4:=hC.disk.map.top;have c3:=hC.disk.c3;have c4:=hC.disk.c4;have f3:=hC.disk.map.fr 3;have f4:=hC.disk.map.fr 4;have hdw:d<w.heap.size:=h.map.top;have HC:Hid _:=hC;clear hC hQ h hb0 hb1 hb2;gi_wp2;have hEd:E≠d:=by omega
  have hK2:((W.setCell ⟨d,3,none⟩ (.bool false)).setCell ⟨d,4,none⟩ (.int .i64 0)).heap[E]?=some (.deferred (some [])):=by
   rw [heap_setCell_other _ ⟨d,4,none⟩ E _ hEd,heap_setCell_other _ ⟨d,3,none⟩ E _ hEd];exact hK
  have hfin:zx tg o d (D.zC1 ks) w (((W.setCell ⟨d,3,none⟩ (.bool false)).setCell ⟨d,4,none⟩ (.int .i64 0)).putObj E (.deferred none)):=by
   have hd0:=(HC.out.disk.zMU false).zG0 0;rw [zIj] at hd0;refine ⟨tg.more w.heap.size (o+1) 0,ids,ps,fun k hk=>Tags.zD hk,hd0.keep (by simp) (fun _ _=>rfl) (fun k _ e=>World.putObj_heap_other (fun er=>?_)),?_⟩
   ·subst er;rw [Tags.zX (by omega)] at e;simp at e
   ·have htd:tg d=(o,0):=by
     have:=HC.out.disk.map.td
     rwa [Tags.zD hdw] at this
    have ho:=Yw (Yw HC.out.only (fun k _ e=>by rw [e,htd]) 3 (.bool false)) (fun k _ e=>by rw [e,htd]) 4 (.int .i64 0);exact ho.grown (grownBy_putObj' _ E (.deferred none)) (fun r e=>by cases e;omega)
  refine ⟨by simp,.inl ⟨_,_,rfl,run_takeDeferred hK2,?_⟩⟩;exact ⟨_,results_none rfl _ _ _,rfl,hfin⟩
 case stop =>
  rintro D c pre W _ _ h _;exact h.elim
end Go.Proofs.YtekdenkllipehabGreatDoor
