import Derived.Test.YtekdenkllipehaaGreatDoorP33
import Derived.Test.YtekdenkllipehaaGreatDoorP35
set_option maxRecDepth 99999
set_option maxHeartbeats 0
namespace Go.Proofs.YtekdenkllipehaaGreatDoor
open Go.RowKit
variable{AU Cr tg:Tags}{C:S.Con}{H H':M.Hou}{L:List LV}{P:Nat->Prop}{R R' R2:M.Hou->Option S.Sto->Prop}{T:S.Two}{X:S.Sto}{b b' c c' d d' h i k lc m n o od rr wb:Nat}{bl ids j ps:List Nat}{bs:List (List Rec)}{dt fp:Bool}{dv sv:Value}{e wm:Int}{l x y:M.Lif}{lo:Option Addr}{ls ls':List M.Lif}{s:M.Sta}{t:List UInt8}{v:M.Ver}{w w' w1 w3:World}
namespace S
theorem Rc{s:List UInt8}{x:UInt8}(hi:i<(M.sealed t).length)(hx:x≠(M.sealed t)[i]):M.sealed s≠(M.sealed t).set i x:=by
 intro h;have e1:M.sealed t=(M.sealed t).take i++[(M.sealed t)[i]]++(M.sealed t).drop (i+1):=by
  rw[zLc,List.singleton_append,List.getElem_cons_drop,zLq]
 have e2:(M.sealed t).set i x=(M.sealed t).take i++[x]++(M.sealed t).drop (i+1):=by
  rw[List.set_eq_take_append_cons_drop,if_pos hi,zLc,List.singleton_append]
 have:=M.VK (v:=[(M.sealed t)[i]]) (w:=[x]) rfl (by simp) e1 (h.trans e2);injection this with this;exact hx this.symm
theorem MI{A:List UInt8}{x:UInt8}(hi:i<(M.sealed t).length)(hx:x≠(M.sealed t)[i]):Gp (A++(M.sealed t).set i x) ((M.sealed t).length:Nat)=none:=by
 obtain⟨B,hB⟩:=ex ((M.sealed t).set i x);have hl:B.length=(M.sealed t).length:=by rw[hB,List.length_set]
 have h4:=M.Ar t;rw[<-hB,<-hl];unfold Gp;have e1:(A++B).length-B.length=A.length:=by rw[zLL];omega
 have e2:(A++B).drop ((A++B).length-4)=B.drop (B.length-4):=by
  have:(A++B).length-4=A.length+(B.length-4):=by rw[zLL];omega
  rw[this,List.drop_append];simp
 rw[if_neg (by rw[zLL];omega),zLp,e1,e2,List.drop_left,if_neg ?_];intro h;have:M.sealed (B.take (B.length-4))=B:=by
  unfold M.sealed;rw[<-h,zLq]
 rw[hB]at this;exact Rc hi hx this
theorem O6{B:List UInt8}(hB:B.length=(Aw bs).length)(hok:∀b∈bs,OkB b)(hw:-1<=wm)(hw2:wm<=1099511627776)(hs:(Aa bs wm).length<=1048576):readFile (B++Eh (Af bs wm))=some ⟨wm,B,CR 0 bs⟩:=by
 have hl:(Aa bs wm).length=(Aw bs).length+(Eh (Af bs wm)).length:=by unfold Aa;rw[zLL]
 have hle:(Eh (Af bs wm)).length=(M.sealed (Af bs wm)).length+(M.sealed (M.enc 7 (2097152+(M.sealed (Af bs wm)).length))).length:=by unfold Eh;rw[zLL]
 have h8:(M.sealed (M.enc 7 (2097152+(M.sealed (Af bs wm)).length))).length=8:=by rw[M.Ar,enc4 _ (by omega) (by omega)]
 have e:B++Eh (Af bs wm)=(B++M.sealed (Af bs wm))++M.sealed (M.enc 7 (2097152+(M.sealed (Af bs wm)).length)):=by unfold Eh;rw[zLc]
 have c1:=Ez (B++M.sealed (Af bs wm)) (M.enc 7 (2097152+(M.sealed (Af bs wm)).length));rw[h8,<-e]at c1;have s:Sits (M.enc 7 (2097152+(M.sealed (Af bs wm)).length)) 0 (M.enc 7 (2097152+(M.sealed (Af bs wm)).length)):=⟨[],[],by simp,rfl⟩;have e1:=Cg (most:=72057594037927935) s (by omega) (by omega);unfold readFile;rw[show((8:Nat):Int)=8 from rfl]at c1;rw[c1];simp only;rw[e1];simp only;rw[show((2097152+(M.sealed (Af bs wm)).length:Nat):Int)-2097152=((M.sealed (Af bs wm)).length:Nat) by omega,Ez];simp only;have h:=Nc hok hw hw2 (show(Aw bs).length<72057594037927936 by omega);unfold FU at h⊢;rw[hB];simp only at h⊢;split at h
 .cases h
 .rename_i hn;rw[if_neg hn];injection h with h;injection h with h1 h2 h3;rw[h1,h3]
theorem aO(hok:∀b∈bs,OkB b)(hw:-1<=wm)(hw2:wm<=1099511627776)(hs:(Aa bs wm).length<=1048576){x:UInt8}(hi:i<(Aa bs wm).length)(hx:x≠(Aa bs wm)[i]):KY True ((Aa bs wm).set i x) bs wm:=by
 have hl:(Aa bs wm).length=(Aw bs).length+(Eh (Af bs wm)).length:=by unfold Aa;rw[zLL]
 have hle:(Eh (Af bs wm)).length=(M.sealed (Af bs wm)).length+(M.sealed (M.enc 7 (2097152+(M.sealed (Af bs wm)).length))).length:=by unfold Eh;rw[zLL]
 have h8:(M.sealed (M.enc 7 (2097152+(M.sealed (Af bs wm)).length))).length=8:=by rw[M.Ar,enc4 _ (by omega) (by omega)]
 unfold KY;by_cases h1:i<(Aw bs).length
 .have e:(Aa bs wm).set i x=(Aw bs).set i x++Eh (Af bs wm):=by
   unfold Aa;rw[List.set_append_left _ _ h1]
  have hx1:x≠(Aw bs)[i]:=by
   have:(Aa bs wm)[i]?=(Aw bs)[i]?:=by
    unfold Aa;rw[zMA h1]
   rw[zLH hi,zLH h1]at this;injection this with this;rw[<-this];exact hx
  rw[e,O6 (by rw[List.length_set]) hok hw hw2 hs];refine⟨rfl,rfl,by simp[ByteArray.size],fun j b p hj hp=>?_⟩;have hc:=mE hj;rw[<-hp]at hc;have hex:((⟨((Aw bs).set i x).toArray⟩:BA).extract p (p+(Aj b).length)).data.toList=(((Aw bs).set i x).drop p).take (Aj b).length:=by
   rw[ByteArray.data_extract];simp only[List.extract_toArray,List.extract_eq_take_drop,Nat.add_sub_cancel_left]
  rw[List.drop_set]at hex;by_cases hip:i<p
  .rw[if_pos hip,hc]at hex;exact Or.inl hex
  .rw[if_neg hip,List.take_set,hc]at hex;by_cases hin:i-p<(Aj b).length
   .refine Or.inr ⟨trivial,fun rs T _ _ hT=>?_⟩;have qi:=congrArg (fun a:BA=>a.data.toList) hT;simp only at qi;rw[hex]at qi;have hxx:x≠(Aj b)[i-p]:=by
     have h2:(Aj b)[i-p]?=(Aw bs)[i]?:=by
      rw[<-hc,List.getElem?_take,if_pos hin,zLr,show p+(i-p)=i by omega]
     rw[zLH hin,zLH h1]at h2;injection h2 with h2;rw[h2];exact hx1
    (have hT3:M.sealed T=(Aj b).set (i-p) x:=by simpa[Cc]using qi);exact Rc (t:=(Ad b).getD []) hin hxx hT3
   .have hst:(Aj b).set (i-p) x=Aj b:=List.set_eq_of_length_le (by omega);rw[hst]at hex;exact Or.inl hex
 .by_cases h2:i-(Aw bs).length<(M.sealed (Af bs wm)).length
  .have e:(Aa bs wm).set i x=(Aw bs++(M.sealed (Af bs wm)).set (i-(Aw bs).length) x)++M.sealed (M.enc 7 (2097152+(M.sealed (Af bs wm)).length)):=by
    unfold Aa Eh;rw[List.set_append_right _ _ (by omega),List.set_append_left _ _ h2,zLc]
   have hxx:x≠(M.sealed (Af bs wm))[i-(Aw bs).length]:=by
    have:(Aa bs wm)[i]?=(M.sealed (Af bs wm))[i-(Aw bs).length]?:=by
     unfold Aa Eh;rw[zMB (by omega),zMA h2]
    rw[zLH hi,zLH h2]at this;injection this with this;rw[<-this];exact hx
   have c1:=Ez (Aw bs++(M.sealed (Af bs wm)).set (i-(Aw bs).length) x) (M.enc 7 (2097152+(M.sealed (Af bs wm)).length));rw[h8,<-e]at c1;have s:Sits (M.enc 7 (2097152+(M.sealed (Af bs wm)).length)) 0 (M.enc 7 (2097152+(M.sealed (Af bs wm)).length)):=⟨[],[],by simp,rfl⟩;have e1:=Cg (most:=72057594037927935) s (by omega) (by omega);have hn:readFile ((Aa bs wm).set i x)=none:=by
    unfold readFile;rw[show((8:Nat):Int)=8 from rfl]at c1;rw[c1];simp only;rw[e1];simp only;rw[show((2097152+(M.sealed (Af bs wm)).length:Nat):Int)-2097152=((M.sealed (Af bs wm)).length:Nat) by omega,MI h2 hxx]
   rw[hn];trivial
  .have h3:i-(Aw bs).length-(M.sealed (Af bs wm)).length<(M.sealed (M.enc 7 (2097152+(M.sealed (Af bs wm)).length))).length:=by omega
   have e:(Aa bs wm).set i x=(Aw bs++M.sealed (Af bs wm))++(M.sealed (M.enc 7 (2097152+(M.sealed (Af bs wm)).length))).set (i-(Aw bs).length-(M.sealed (Af bs wm)).length) x:=by
    unfold Aa Eh;rw[List.set_append_right _ _ (by omega),List.set_append_right _ _ (by omega),zLc]
   have hxx:x≠(M.sealed (M.enc 7 (2097152+(M.sealed (Af bs wm)).length)))[i-(Aw bs).length-(M.sealed (Af bs wm)).length]:=by
    have:(Aa bs wm)[i]?=(M.sealed (M.enc 7 (2097152+(M.sealed (Af bs wm)).length)))[i-(Aw bs).length-(M.sealed (Af bs wm)).length]?:=by
     unfold Aa Eh;rw[zMB (by omega),zMB (by omega)]
    rw[zLH hi,zLH h3]at this;injection this with this;rw[<-this];exact hx
   have c1:=MI (A:=Aw bs++M.sealed (Af bs wm)) h3 hxx;rw[h8,<-e]at c1;have hn:readFile ((Aa bs wm).set i x)=none:=by
    unfold readFile;rw[show((8:Nat):Int)=8 from rfl]at c1;rw[c1]
   rw[hn];trivial
end S
namespace S
def Jz(fp:Bool)(T:Two)(bs:List (List Rec))(fl:Int):Prop:=
 (T.a=none/\bs=[]/\fl=-1)\/∃t,T.a=some (t,t.length)/\t.length=(Aa bs fl).length/\KY (fp=true) t bs fl/\(fp=false->t=Aa bs fl)
structure E9(fp:Bool)(T:Two)(bs:List (List Rec))(C:Con)(s:M.Sta):Prop where
 lies:Jz fp T bs s.water
 fil:Fil CU bs C
 w1:-1<=s.water
 w2:s.water<=1099511627776
 keeps:∀k,∃n,C k=(fv (facts s.AB) k).take n/\needs s.water (fv (facts s.AB) k)<=n
structure NP(T:Two)(X:Sto)(bs:List (List Rec))(C:Con)(l:M.Lif):Prop where
 good:X.Good bs C
 wm:X.wm=l.now.water
 fl:X.fl=l.flushed.water
 dead:X.dead=l.dead
 pend:X.BI=l.pending
 keeps:Keeps X C (facts l.now.AB)
 td:X.dead=T.dead
 b:T.dead=false->T.b=none
structure JQ(H:M.Hou)(l:M.Lif):Prop where
 AB:Ea l.now.AB
 pre:∃more,l.now.AB=l.flushed.AB++more
 idle:l.pending=false->l.now=l.flushed
 cost:Kw (facts l.now.AB)<=26*H.calls+2*H.bytes
 len:l.now.AB.length<=H.calls
structure Es(H:M.Hou)(x:M.Lif):Prop where
 fl:x.flushed.AB.length<=H.calls
 nl:x.now.AB.length<=H.calls
 fs:∀v∈x.flushed.AB,v.key.size<=64/\v.value.size<=4096
 ns:∀v∈x.now.AB,v.key.size<=64/\v.value.size<=4096
def Core(H:M.Hou)(T:Two)(X:Option Sto)(ls:List M.Lif):Prop:=
 ∃bs C l,l∈ls/\E9 H.flipped T bs C l.flushed/\JQ H l/\match X with
  |none=>l.dead=false/\l.late=false/\l.pending=false
  |some X=>NP T X bs C l
structure Ff(H:M.Hou)(T:Two)(X:Option Sto)(ls:List M.Lif):Prop where
 cap:T.cap=H.cap
 fine:T.dsk.BS
 arm:H.armed=false->T.Ae=0/\T.dead=false
 any:∀x∈ls,Es H x
 few:ls.length<=32
 RF:((T.Ae≠0/\T.dead=false)\/∃x∈ls,x.late=true)->ls.length<=16
 late:∀x∈ls,x.late=true->T.dead=true
 quiet:H.quiet=true->T.dead=false/\T.b=none
 closed:X=none->∀x∈ls,x.dead=false/\x.late=false
 gone:X≠none->T.dead=true->∀x∈ls,x.dead=true
 core:Core H T X ls
theorem UC{T:Two}(hF:T.dsk.BS):len T.a+len T.b<=T.cap/\T.cap<=1048576:=by
 have h1:=hF.good.fits;have h2:=hF.good.cap;rw[Two.LX]at h1;exact⟨h1,h2⟩
theorem Jz.len{fp:Bool}{T:Two}{bs:List (List Rec)}{fl:Int}(h:Jz fp T bs fl)(hF:T.dsk.BS):(bs=[]/\fl=-1/\T.a=none)\/((Aa bs fl).length=S.len T.a/\(Aa bs fl).length<=1048576):=by
 have:=UC hF;rcases h with⟨e,e2,e3⟩|⟨t,e,e2,_⟩
 .exact Or.inl ⟨e2,e3,e⟩
 .rw[e]at this;refine Or.inr ⟨by rw[e,<-e2];rfl,?_⟩;simp only[S.len,zM1,zLT]at this;omega
theorem E9.few{T:Two}{C:Con}(h:E9 fp T bs C s)(hF:T.dsk.BS):bs.flatten.length<=209716:=by
 rcases h.lies.len hF with⟨e,_⟩|⟨_,e⟩
 .rw[e];simp
 .have h3:=KH h.fil.ok;unfold Aa at e;rw[zLL]at e;omega
theorem E9.on{T:Two}{C:Con}(h:E9 fp T bs C s)(hd:T.dead=false):MS (fp=true) T.dsk bs s.water:=by
 refine⟨hd,?_⟩;rw[Two.ZC,if_neg (by rw[hd];simp)];rcases h.lies with⟨e,e2,e3⟩|⟨t,e,_,e3,_⟩
 .rw[e];exact Or.inl ⟨rfl,e2,e3⟩
 .rw[e];exact Or.inr ⟨rfl,e3⟩
theorem Jz.whole{fp:Bool}{T:Two}{bs:List (List Rec)}{fl:Int}(hF:T.dsk.BS)(hok:∀b∈bs,OkB b)(h1:-1<=fl)(h2:fl<=1099511627776)(ha:T.a=some (Aa bs fl,(Aa bs fl).length)):Jz fp T bs fl:=by
 have:=UC hF;rw[ha]at this;simp only[S.len,zM1,zLT]at this;exact Or.inr ⟨_,ha,rfl,KY.whole _ hok h1 h2 (by omega),fun _=>rfl⟩
theorem jh{T:Two}{X:Sto}{C:Con}(hs:NP T X bs C l)(hv:Ea l.now.AB)(k:BA)(t:Int):t<=X.latest k↔(t<0\/t<=l.now.water\/t<=l.now.last k):=by
 have h1:=hs.good.rP;have h2:=hs.good.lG;have hw:=hs.wm;have hl:=ji hv l.now.water k;rw[show(⟨l.now.AB,l.now.water⟩:M.Sta)=l.now from rfl]at hl;rw[hs.good.latest k,hl];obtain⟨n,g1,g2⟩:=hs.keeps k;rw[g1]
 cases n with
 |zero =>
  rw[List.take_zero];simp only[List.head?_nil]
  cases hf:fv (facts l.now.AB) k with
  |nil=>simp only[List.head?_nil];omega
  |cons x r =>
   rw[hf]at g2;simp only[needs]at g2;split at g2
   .omega
   .simp only[List.head?_cons];omega
 |succ n =>
  cases hf:fv (facts l.now.AB) k with
  |nil=>simp only[List.take_nil,List.head?_nil];omega
  |cons x r =>
   simp only[List.take_succ_cons,List.head?_cons,Int.max_def];split<;>omega
theorem ZJ{T:Two}{X:Sto}{C:Con}(hs:NP T X bs C l)(hv:Ea l.now.AB)(v:M.Ver):X.adding v.rc=((l.put v).2:Nat):=by
 have hlat:=jh hs hv v.key v.stamp;unfold Sto.adding M.Lif.put M.Lif.asked;rw[hs.dead];show(if l.dead=true then(10:Int)else if¬(1<=v.key.size/\v.key.size<=64)then 11 else if 4096<v.value.size then 4 else if 1099511627776<v.stamp\/v.stamp<=X.latest v.key then 12 else 0)=_
 by_cases h1:l.dead=true
 .simp[h1]
 .simp only[h1,if_false,zM8];by_cases h2:v.key.size<1\/64<v.key.size
  .rw[if_pos (by omega),if_pos h2];rfl
  .rw[if_neg (by omega),if_neg h2];simp only[ne_eq,not_true,if_false];by_cases h3:4096<v.value.size
   .rw[if_pos h3,if_pos h3];rfl
   .rw[if_neg h3,if_neg h3];by_cases h4:v.stamp<0\/1099511627776<v.stamp\/v.stamp<=l.now.water\/v.stamp<=l.now.last v.key
    .rw[if_pos (by rw[hlat];rcases h4 with h|h|h|h<;>simp[h]),if_pos h4];rfl
    .rw[if_neg (by rw[hlat];intro h;apply h4;rcases h with h|h|h|h<;>simp[h]),if_neg h4];rfl
theorem TU(h:(l.put v).2=0):(l.put v).1={ l with now:=⟨l.now.AB++[v],l.now.water⟩,pending:=true }/\(1<=v.key.size/\v.key.size<=64)/\v.value.size<=4096/\0<=v.stamp/\v.stamp<=1099511627776/\l.now.water<v.stamp/\l.now.last v.key<v.stamp:=by
 unfold M.Lif.put at h⊢;split at h
 .rename_i h1;exact absurd h h1
 rename_i h1;split at h
 .cases h
 rename_i h2;split at h
 .cases h
 rename_i h3;rw[if_neg h1,if_neg h2,if_neg h3];have hk:¬(v.key.size<1\/64<v.key.size):=fun e=>h1 (by unfold M.Lif.asked;rw[if_pos e];split<;>decide);exact⟨rfl,by omega,by omega,by omega,by omega,by omega,by omega⟩
theorem Xo(h:(l.put v).2≠0):(l.put v).1=l:=by
 unfold M.Lif.put at h⊢;split
 .rfl
 rename_i h1;rw[if_neg h1]at h;split
 .rfl
 rename_i h2;rw[if_neg h2]at h;split
 .rfl
 rename_i h3;rw[if_neg h3]at h;exact absurd rfl h
theorem Tk{X:Sto}{C:Con}{r:Rec}(hc:(X.put r).con C=(X.con C).put r.key (Pb r::X.con C r.key)):(X.put r).BI=true:=by
 unfold Sto.BI;apply decide_eq_true;refine Or.inl fun e=>?_;have h:=congrFun hc r.key;rw[Con.tY]at h;have h2:=congrArg List.length h;unfold Sto.con at h2;rw[e]at h2;simp[BX,Gw]at h2;omega
theorem NP.put{H:M.Hou}{T:Two}{X:Sto}{bs:List (List Rec)}{C:Con}{l:M.Lif}(hs:NP T X bs C l)(hl:JQ H l)(hc:H.calls<1048000)(v:M.Ver)(hg:v.gone=true->v.value=⟨#[]⟩)(hadd:X.adding v.rc=0):
  NP T (X.put v.rc) bs C (l.put v).1/\JQ { H with calls:=H.calls+1,bytes:=H.bytes+v.key.size+v.value.size } (l.put v).1/\(l.put v).1.flushed=l.flushed:=by
 have hcode:=ZJ hs hl.AB v;rw[hadd]at hcode;obtain⟨e,hk,hvl,h0,ht,hw,hlast⟩:=TU (l:=l) (v:=v) (by omega);rw[e];have hp:yU v.rc.key v.rc:=by
  refine⟨rfl,?_,?_,hvl⟩
  .unfold Rec.fits M.Ver.rc;apply decide_eq_true;refine⟨hk.1,hk.2,by simp only;omega,h0,ht,?_,?_⟩
   .simp only;split<;>omega
   .simp only;split<;>omega
  .unfold M.Ver.rc
   cases hgo:v.gone with
   |true=>exact Or.inr ⟨rfl,by rw[hg hgo];rfl⟩
   |false=>exact Or.inl rfl
 obtain⟨g1,g2⟩:=hs.good.put hadd hp (hs.keeps.pend hs.good (by have:=hl.len;unfold facts;rw[zM2];omega));have hvs:(Gz v).vs=Pb v.rc:=by
  unfold Pb FD.vs Gz M.Ver.rc
  cases v.gone<;>simp
 have nK:=hs.wm;refine⟨⟨g1,hs.wm,hs.fl,hs.dead,Tk g2,?_,hs.td,hs.b⟩,⟨?_,?_,fun e=>by simp at e,?_,?_⟩,rfl⟩
 .show Keeps (X.put v.rc) C (facts (l.now.AB++[v]))
  rw[IU];exact hs.keeps.put g2 rfl hvs (by show X.wm<v.stamp;omega)
 .refine hl.AB.snoc (fun x hx=>?_) ⟨h0,ht⟩ hk hvl hg;have hl2:=ji hl.AB l.now.water v.key;rw[show(⟨l.now.AB,l.now.water⟩:M.Sta)=l.now from rfl]at hl2;rw[hl2]at hlast;have hf:=hl.AB.fall v.key
  cases hfv:fv (facts l.now.AB) v.key with
  |nil=>rw[hfv]at hx;cases hx
  |cons y r =>
   rw[hfv]at hx hlast hf;simp only[List.head?_cons]at hlast;rcases zME.1 hx with rfl|hx
   .exact hlast
   .have:=(zM5.1 hf).1 x hx;omega
 .obtain⟨more,hm⟩:=hl.pre;exact⟨more++[v],by simp[hm]⟩
 .have:=hl.cost;show Kw (facts (l.now.AB++[v]))<=_
  rw[IU,eU];have e2:(Gz v).cost=26+2*v.key.size+v.value.size:=rfl;simp only;omega
 .have:=hl.len;simp only[zLL,zLQ,zLW];omega
theorem Es.put{H:M.Hou}{x:M.Lif}(h:Es H x)(v:M.Ver)(n:Nat):Es { H with calls:=H.calls+1,bytes:=n } (x.put v).1:=by
 have h1:=h.fl;have h2:=h.nl;by_cases hz:(x.put v).2=0
 .obtain⟨e,hk,hvl,_⟩:=TU hz;rw[e];refine⟨by simp only;omega,by simp only[zLL,zLQ,zLW];omega,h.fs,fun u hu=>?_⟩;rcases zMD.1 hu with hu|hu
  .exact h.ns u hu
  .rw[List.mem_singleton.1 hu];exact⟨hk.2,hvl⟩
 .rw[Xo hz];exact⟨by simp only;omega,by simp only;omega,h.fs,h.ns⟩
theorem iy(x:M.Lif)(v:M.Ver):(x.put v).1.dead=x.dead/\(x.put v).1.late=x.late:=by
 by_cases hz:(x.put v).2=0
 .rw[(TU hz).1];exact⟨rfl,rfl⟩
 .rw[Xo hz];exact⟨rfl,rfl⟩
theorem Ff.keep{T:Two}{X X':Sto}(h:Ff H T (some X) ls)(e1:H'.cap=H.cap)(e2:H'.armed=H.armed)(e3:H'.quiet=true->H.quiet=true)(hlen:ls'.length<=ls.length)(hall:∀y∈ls',∃x∈ls,Es H' y/\y.dead=x.dead/\y.late=x.late)(hcore:Core H' T (some X') ls'):Ff H' T (some X') ls':=by
 refine⟨h.cap.trans e1.symm,h.fine,fun e=>h.arm (by rw[<-e2];exact e),fun y hy=>?_,zLV hlen h.few,fun e=>zLV hlen (h.RF ?_),fun y hy e=>?_,fun e=>h.quiet (e3 e),fun e=>(by cases e),fun _ e y hy=>?_,hcore⟩
 .obtain⟨x,_,g,_⟩:=hall y hy;exact g
 .rcases e with e|⟨y,hy,e⟩
  .exact Or.inl e
  .obtain⟨x,hx,_,_,g⟩:=hall y hy;exact Or.inr ⟨x,hx,by rw[<-g];exact e⟩
 .obtain⟨x,hx,_,_,g⟩:=hall y hy;exact h.late x hx (by rw[<-g];exact e)
 .obtain⟨x,hx,_,g,_⟩:=hall y hy;rw[g];exact h.gone (by simp) e x hx
theorem Ff.alive{T T':Two}{X X':Sto}(h:Ff H T (some X) ls)(hT:T.dead=false)(hT':T'.dead=false)(e0:T'.cap=T.cap)(e1:H'.cap=H.cap)(e2:H'.armed=H.armed)(hF:T'.dsk.BS)(hfu:T.Ae=0->T'.Ae=0)(hq:T'.b=none)(hlen:ls'.length<=ls.length)(hall:∀y∈ls',Es H' y/\∃x∈ls,y.late=x.late)(hcore:Core H' T' (some X') ls'):Ff H' T' (some X') ls':=by
 have hno:∀y∈ls',y.late=true->False:=fun y hy e=>by
  obtain⟨_,x,hx,g⟩:=hall y hy;have:=h.late x hx (by rw[<-g];exact e);rw[hT]at this
  cases this
 refine⟨by rw[e0,e1];exact h.cap,hF,fun e=>⟨hfu (h.arm (by rw[<-e2];exact e)).1,hT'⟩,fun y hy=>(hall y hy).1,zLV hlen h.few,fun e=>zLV hlen (h.RF ?_),fun y hy e=>(hno y hy e).elim,fun _=>⟨hT',hq⟩,fun e=>(by cases e),fun _ e=>(by rw[hT']at e;cases e),hcore⟩;rcases e with e|⟨y,hy,e⟩
 .exact Or.inl ⟨fun e3=>e.1 (hfu e3),hT⟩
 .exact(hno y hy e).elim
theorem Ff.zHW{T T':Two}{X X':Sto}(h:Ff H T (some X) ls)(hT:T.dead=false)(hD:Yy T T')(e1:H'.cap=H.cap)(e2:H'.armed=H.armed)(e3:H'.quiet=false)(hF:T'.dsk.BS)(hlen:ls'.length<=ls.length)(hall:∀y∈ls',Es H' y/\y.dead=true)(hcore:Core H' T' (some X') ls'):Ff H' T' (some X') ls':=by
 have h16:=h.RF (Or.inl ⟨hD.armed,hT⟩);exact⟨by rw[hD.cap,e1];exact h.cap,hF,fun e=>absurd (h.arm (by rw[<-e2];exact e)).1 hD.armed,fun y hy=>(hall y hy).1,zLV hlen h.few,fun _=>zLV hlen h16,fun _ _ _=>hD.dead,fun e=>(by rw[e3]at e;cases e),fun e=>(by cases e),fun _ _ y hy=>(hall y hy).2,hcore⟩
theorem Ff.put{H:M.Hou}{T:Two}{X:Sto}{ls:List M.Lif}(h:Ff H T (some X) ls)(hc:H.calls<1048000)(v:M.Ver)(hg:v.gone=true->v.value=⟨#[]⟩):
  Ff { H with calls:=H.calls+1,bytes:=H.bytes+v.key.size+v.value.size } T (some (if X.adding v.rc=0 then X.put v.rc else X)) (ls.filterMap fun x=>M.putting (X.adding v.rc) v x)/\0<(ls.filterMap fun x=>M.putting (X.adding v.rc) v x).length:=by
 obtain⟨bs,C,l,hl,hf,hL,hs⟩:=h.core;have hcode:=ZJ hs hL.AB v;have hin:(l.put v).1∈ls.filterMap fun x=>M.putting (X.adding v.rc) v x:=List.mem_filterMap.2 ⟨l,hl,by unfold M.putting;rw[if_pos hcode]⟩;refine⟨h.keep rfl rfl id (List.length_filterMap_le ..) (fun y hy=>?_) ⟨bs,C,(l.put v).1,hin,?_⟩,List.length_pos_of_mem hin⟩
 .obtain⟨x,hx,e⟩:=List.mem_filterMap.1 hy;unfold M.putting at e;split at e
  .injection e with e;subst e;exact⟨x,hx,(h.any x hx).put v _,iy x v⟩
  .cases e
 .by_cases ha:X.adding v.rc=0
  .obtain⟨g1,g2,g3⟩:=hs.put hL hc v hg ha;rw[if_pos ha,g3];exact⟨hf,g2,g1⟩
  .rw[if_neg ha,Xo (by omega)];refine⟨hf,⟨hL.AB,hL.pre,hL.idle,?_,?_⟩,hs⟩
   .have:=hL.cost;simp only;omega
   .have:=hL.len;simp only;omega
end S
abbrev Mine(rr o od x:Nat):Prop:=x=rr\/x=o\/x=od
structure Turn(P:Nat->Prop)(tg:Tags)(w:World)(AU:Tags)(w':World):Prop where
 os:w'.os=w.os
 tape:w'.tape=w.tape
 output:w'.output=w.output
 size:w.heap.size<=w'.heap.size
 tags:∀k,k<w.heap.size->¬P (tg k).1->AU k=tg k
 block:∀k,k<w.heap.size->¬P (tg k).1->w'.heap[k]?=w.heap[k]?
def Hq(w:World)(tg:Tags)(o d:Nat)(sv:Value):Option S.Sto->Prop
 |none=>sv=.pointer none
 |some X=>∃s ids ps,sv=pT s/\Ag w tg o s d X ids ps
theorem En{s:Nat}(h:Ag w tg o s d X ids ps):Hq w tg o d (pT s) (some X):=⟨s,ids,ps,rfl,h⟩
def Di(w:World)(tg:Tags)(rr o od h:Nat)(H:M.Hou)(T:S.Two)(X:Option S.Sto)(ls:List M.Lif):Prop:=
 ∃(d:Nat)(sv:Value)(lo:Option Addr)(lc:Nat)(L:List LV)(ids ps:List Nat),L.map (fun x=>x.l)=ls/\A7 w tg rr h (pT d) sv lo lc L H/\AJ w tg od d T.dsk ids ps/\Hq w tg o d sv X
structure vJ(w:World)(tg:Tags)(m rr o od:Nat):Prop where
 tab:Tab w
 FP:¬Mine rr o od (tg 0).1
 low:Low m tg w
 n1:rr≠o
 n2:rr≠od
 n3:o≠od
 l1:rr<m
 l2:o<m
 l3:od<m
 p:rr≠0/\o≠0/\od≠0
theorem A7.retag(hh:A7 w tg rr h dv sv lo lc L H)(ht:∀k,k<w.heap.size->(tg k).1=rr->AU k=tg k):A7 w AU rr h dv sv lo lc L H:=by
 have hlt:∀a,lo=some a->L≠[]->a.block<w.heap.size:=fun a e hne=>by
  obtain⟨x,hx⟩:∃x,L[0]?=some x:=by
   cases L with
   |nil=>exact absurd rfl hne
   |cons x L=>exact⟨x,rfl⟩
  obtain⟨g,e2,hg,_⟩:=hh.lv.row 0 x hx;rw[e]at e2;injection e2 with e2;rw[e2];exact hg
 refine⟨hh.top,by rw[ht h hh.top (by rw[hh.th])];exact hh.th,hh.fr,hh.c0,hh.c1,hh.c2,hh.c3,hh.c4,hh.c5,hh.c6,hh.c7,hh.c8,hh.c9,hh.lv,fun a e hne=>?_,fun x hx a ha=>?_⟩
 .rw[ht _ (hlt a e hne) (hh.tl a e hne).1];exact hh.tl a e hne
 .rw[ht _ ((hh.lv.all x hx).lt ha) (hh.tv x hx a ha).1];exact hh.tv x hx a ha
theorem Hq.retag{w:World}{tg AU:Tags}{o d:Nat}{sv:Value}{X:Option S.Sto}(h:Hq w tg o d sv X)(ht:∀k,k<w.heap.size->(tg k).1=o->AU k=tg k):Hq w AU o d sv X:=by
 cases X with
 |none=>exact h
 |some X =>
  obtain⟨s,ids,ps,e,hS⟩:=h;exact⟨s,ids,ps,e,hS.retag ht⟩
theorem Di.retag{w:World}{tg AU:Tags}{rr o od h:Nat}{H:M.Hou}{T:S.Two}{X:Option S.Sto}{ls:List M.Lif}(hh:Di w tg rr o od h H T X ls)(ht:∀k,k<w.heap.size->Mine rr o od (tg k).1->AU k=tg k):Di w AU rr o od h H T X ls:=by
 obtain⟨d,sv,lo,lc,L,ids,ps,e,hA,hD,hS⟩:=hh;exact⟨d,sv,lo,lc,L,ids,ps,e,hA.retag (fun k hk e=>ht k hk (Or.inl e)),hD.retag (fun k hk e=>ht k hk (Or.inr (Or.inr e))),hS.retag (fun k hk e=>ht k hk (Or.inr (Or.inl e)))⟩
theorem Hq.keep{w w':World}{tg AU:Tags}{o d:Nat}{sv:Value}{X:Option S.Sto}(h:Hq w tg o d sv X)(hs:w.heap.size<=w'.heap.size)(ht:∀k,k<w.heap.size->AU k=tg k)(hb:∀k,k<w.heap.size->(tg k).1=o->w'.heap[k]?=w.heap[k]?):Hq w' AU o d sv X:=by
 cases X with
 |none=>exact h
 |some X =>
  obtain⟨s,ids,ps,e,hS⟩:=h;exact⟨s,ids,ps,e,hS.keep hs ht hb⟩
theorem Di.turn{X:Option S.Sto}(hh:Di w tg rr o od h H T X ls)(k:Turn P tg w AU w')(h1:¬P rr)(h2:¬P o)(h3:¬P od):Di w' AU rr o od h H T X ls:=by
 obtain⟨d,sv,lo,lc,L,ids,ps,e,hA,hD,hS⟩:=hh;obtain⟨D5,dM⟩:∃D5:Tags,D5=fun i=>if i<w.heap.size then tg i else AU i:=⟨_,rfl⟩
 have t0:∀i,i<w.heap.size->D5 i=tg i:=fun i hi=>by rw[dM];simp[hi]
 have hK:Kept P tg w D5 w':=⟨k.os,k.tape,k.output,k.size,t0,k.block⟩;have hR:Di w' D5 rr o od h H T X ls:=⟨d,sv,lo,lc,L,ids,ps,e,hA.keep hK h1,hD.keep k.size t0 (fun i hi e=>k.block i hi (by rw[e];exact h3)),hS.keep k.size t0 (fun i hi e=>k.block i hi (by rw[e];exact h2))⟩;refine hR.retag fun i hi hm=>?_;rw[dM]at hm⊢;by_cases hlt:i<w.heap.size
 .simp only[hlt,if_true]at hm⊢;exact k.tags i hlt (fun hp=>by rcases hm with e|e|e<;>rw[e]at hp<;>contradiction)
 .simp only[hlt,if_false]
def Qg(n:Nat)(tg Cr:Tags)(rr o od:Nat):Tags:=fun k=>if k<n/\¬Mine rr o od (tg k).1 then tg k else if Mine rr o od (Cr k).1 then Cr k else(0,0)
theorem eX(hl:Low m tg w)(hn:n=w.heap.size)(l1:rr<m)(l2:o<m)(l3:od<m):Low m (Qg n tg Cr rr o od) w':=fun k _=>by
 unfold Qg;split
 .rename_i h;exact hl k (by rw[<-hn];exact h.1)
 split
 .rename_i h;rcases h with h|h|h<;>rw[h]<;>assumption
 .show 0<m;omega
theorem Di.clean{X:Option S.Sto}(hE:vJ w tg m rr o od)(k:Turn P tg w Cr w')(hP:∀x,P x->Mine rr o od x)(hh:Di w' Cr rr o od h H T X ls):
  ∃AU,Di w' AU rr o od h H T X ls/\Turn (Mine rr o od) tg w AU w'/\vJ w' AU m rr o od:=by
 have hG:=ES hE.tab;have t1:∀i,i<w.heap.size->¬Mine rr o od (tg i).1->Qg w.heap.size tg Cr rr o od i=tg i:=fun i hi hn=>by
  unfold Qg;rw[if_pos ⟨hi,hn⟩]
 have hT:Turn (Mine rr o od) tg w (Qg w.heap.size tg Cr rr o od) w':=⟨k.os,k.tape,k.output,k.size,t1,fun i hi hn=>k.block i hi (fun e=>hn (hP _ e))⟩;refine⟨Qg w.heap.size tg Cr rr o od,hh.retag (fun i hi hm=>?_),hT,⟨Cu hE.tab (hT.block _ hG hE.FP),?_,eX hE.low rfl hE.l1 hE.l2 hE.l3,hE.n1,hE.n2,hE.n3,hE.l1,hE.l2,hE.l3,hE.p⟩⟩
 .unfold Qg;by_cases hlt:i<w.heap.size/\¬Mine rr o od (tg i).1
  .exfalso;rw[k.tags i hlt.1 (fun e=>hlt.2 (hP _ e))]at hm;exact hlt.2 hm
  .rw[if_neg hlt,if_pos hm]
 .rw[t1 _ hG hE.FP];exact hE.FP
theorem Turn.Ed(k:Kept P tg w AU w'):Turn P tg w AU w':=⟨k.os,k.tape,k.output,k.size,fun i hi _=>k.tags i hi,k.block⟩
theorem Turn.trans{P:Nat->Prop}{tg AR D5:Tags}{w w1 w2:World}(a:Turn P tg w AR w1)(b:Turn P AR w1 D5 w2):Turn P tg w D5 w2:=by
 refine⟨b.os.trans a.os,b.tape.trans a.tape,b.output.trans a.output,zLV a.size b.size,fun k hk hn=>?_,fun k hk hn=>?_⟩
 .rw[b.tags k (zLJ hk a.size) (by rw[a.tags k hk hn];exact hn),a.tags k hk hn]
 .rw[b.block k (zLJ hk a.size) (by rw[a.tags k hk hn];exact hn),a.block k hk hn]
theorem Turn.wider{R:Nat->Prop}(h:Turn P tg w AU w')(hs:∀x,P x->R x):Turn R tg w AU w':=⟨h.os,h.tape,h.output,h.size,fun k hk hn=>h.tags k hk (fun e=>hn (hs _ e)),fun k hk hn=>h.block k hk (fun e=>hn (hs _ e))⟩
def Bf(m rr o od h:Nat)(H:M.Hou)(more:Nat)(R:M.Hou->Option S.Sto->Prop)(tg:Tags)(w:World)(e:Ending)(w':World):Prop:=
 e=.returned (.bool true)/\∃AU H' T' X' ls',Di w' AU rr o od h H' T' X' ls'/\S.Ff H' T' X' ls'/\Turn (Mine rr o od) tg w AU w'/\vJ w' AU m rr o od/\H'.calls<=H.calls+2/\H'.bytes<=H.bytes+more/\R H' X'
def Ju(H H':M.Hou)(X':Option S.Sto):Prop:=H'.armed=H.armed/\H'.flipped=H.flipped/\X'.isSome=true
def Opens(H H':M.Hou)(X':Option S.Sto):Prop:=H'.armed=H.armed/\H'.flipped=H.flipped/\(H.armed=false->H.flipped=false->X'.isSome=true)
namespace S
theorem bK{T:Two}{X:Sto}{C:Con}(hs:NP T X bs C l)(t:Int):X.raising t=((l.raise t).2:Nat):=by
 unfold Sto.raising M.Lif.raise;rw[hs.dead,hs.wm];by_cases h1:l.dead=true
 .simp[h1]
 .simp only[h1,if_false,zM8];by_cases h2:t<l.now.water\/1099511627776<t
  .rw[if_pos h2,if_pos h2];rfl
  .rw[if_neg h2,if_neg h2];rfl
theorem Rl{t:Int}(h:(l.raise t).2=0):(l.raise t).1={ l with now:=⟨l.now.AB,t⟩,pending:=l.pending || decide (l.now.water<t)}/\l.now.water<=t/\t<=1099511627776:=by
 unfold M.Lif.raise at h⊢;split at h
 .cases h
 rename_i h1;split at h
 .cases h
 rename_i h2;rw[if_neg h1,if_neg h2];exact⟨rfl,by omega,by omega⟩
theorem VU{t:Int}(h:(l.raise t).2≠0):(l.raise t).1=l:=by
 unfold M.Lif.raise at h⊢;split
 .rfl
 rename_i h1;rw[if_neg h1]at h;split
 .rfl
 rename_i h2;rw[if_neg h2]at h;exact absurd rfl h
theorem Xl(x:M.Lif)(t:Int):(x.raise t).1.dead=x.dead/\(x.raise t).1.late=x.late:=by
 by_cases hz:(x.raise t).2=0
 .rw[(Rl hz).1];exact⟨rfl,rfl⟩
 .rw[VU hz];exact⟨rfl,rfl⟩
theorem Es.more(h:Es H x)(hc:H.calls<=H'.calls):Es H' x:=by
 have h1:=h.fl;have h2:=h.nl;exact⟨by omega,by omega,h.fs,h.ns⟩
theorem JQ.more(h:JQ H l)(hc:H.calls<=H'.calls)(hb:H.bytes<=H'.bytes):JQ H' l:=by
 have h1:=h.cost;have h2:=h.len;exact⟨h.AB,h.pre,h.idle,by omega,by omega⟩
theorem Es.raise{H:M.Hou}{x:M.Lif}(h:Es H x)(t:Int):Es { H with calls:=H.calls+1 } (x.raise t).1:=by
 obtain⟨e1,e2⟩:=M.Rk x t;have h1:=h.fl;have h2:=h.nl;refine⟨by rw[e1];simp only;omega,by rw[e2];simp only;omega,by rw[e1];exact h.fs,by rw[e2];exact h.ns⟩
theorem Ff.raise{H:M.Hou}{T:Two}{X:Sto}{ls:List M.Lif}(h:Ff H T (some X) ls)(t:Int):
  Ff { H with calls:=H.calls+1 } T (some (if X.raising t=0 then{ X with wm:=t }else X)) (ls.filterMap fun x=>M.raised (X.raising t) t x)/\0<(ls.filterMap fun x=>M.raised (X.raising t) t x).length:=by
 obtain⟨bs,C,l,hl,hf,hL,hs⟩:=h.core;have hcode:=bK hs t;have hin:(l.raise t).1∈ls.filterMap fun x=>M.raised (X.raising t) t x:=List.mem_filterMap.2 ⟨l,hl,by unfold M.raised;rw[if_pos hcode]⟩;refine⟨h.keep rfl rfl id (List.length_filterMap_le ..) (fun y hy=>?_) ⟨bs,C,(l.raise t).1,hin,?_⟩,List.length_pos_of_mem hin⟩
 .obtain⟨x,hx,e⟩:=List.mem_filterMap.1 hy;unfold M.raised at e;split at e
  .injection e with e;subst e;exact⟨x,hx,(h.any x hx).raise t,Xl x t⟩
  .cases e
 .by_cases ha:X.raising t=0
  .obtain⟨e,h1,h2⟩:=Rl (l:=l) (t:=t) (by omega);rw[if_pos ha,e];have nK:=hs.wm;have hfl:=hs.fl;have hg2:=hs.good.lG;have hp:=hs.pend;refine⟨hf,⟨hL.AB,hL.pre,fun e2=>?_,by have:=hL.cost;simp only;omega,by have:=hL.len;simp only;omega⟩,⟨hs.good.raise ha,rfl,hs.fl,hs.dead,?_,fun k=>?_,hs.td,hs.b⟩⟩
   ·((simp only[Bool.or_eq_false_iff,decide_eq_false_iff_not]at e2;have e3:t=l.now.water:=by omega);have:=hL.idle e2.1;show(⟨l.now.AB,t⟩:M.Sta)=l.flushed);rw[e3,<-this]
   .unfold Sto.BI at hp⊢;rw[<-hp];simp only;rw[<-Bool.decide_or];apply decide_eq_decide.2;constructor
    .rintro(e|e)
     .exact Or.inl (Or.inl e)
     .by_cases e3:X.wm=X.fl
      .exact Or.inr (by omega)
      .exact Or.inl (Or.inr e3)
    .rintro((e|e)|e)
     .exact Or.inl e
     .exact Or.inr (by omega)
     .exact Or.inr (by omega)
   .obtain⟨n,g1,g2⟩:=hs.keeps k;exact⟨n,g1,zLV (Mk (a:=X.wm) (b:=t) (by omega) (hL.AB.fall k)) g2⟩
  .rw[if_neg ha,VU (by omega)];exact⟨hf,hL.more (by simp only;omega) (zLK _),hs⟩
theorem kz{T:Two}{X:Sto}{C:Con}(hs:NP T X bs C l)(hv:Ea l.now.AB)(k:BA)(t:Int):
  (X.asking k t=0->M.tells k t (told (Ak (X.con C k) t)).1 (told (Ak (X.con C k) t)).2 0 l=true)/\(X.asking k t≠0->M.tells k t ⟨#[]⟩ false (X.asking k t) l=true):=by
 have nK:=hs.wm;have hat:=vN hv l.now.water k t;rw[show(⟨l.now.AB,l.now.water⟩:M.Sta)=l.now from rfl]at hat;unfold M.tells M.Lif.Cb M.Lif.asked Sto.asking;rw[hs.dead,nK];by_cases h1:l.dead=true
 .simp[h1]
 .simp only[h1,if_false,zM8];by_cases h2:k.size<1\/64<k.size
  .rw[if_pos (show¬(1<=k.size/\k.size<=64) by omega),if_pos h2];simp
  .rw[if_neg (show¬¬(1<=k.size/\k.size<=64) by omega),if_neg h2];simp only[ne_eq,not_true,if_false];by_cases h3:t<0\/t<l.now.water
   .rw[if_pos (show t<l.now.water\/t<0 by omega),if_pos h3];simp
   .rw[if_neg (show¬(t<l.now.water\/t<0) by omega),if_neg h3];simp only[not_true,false_implies,and_true,forall_const];rw[hs.keeps.told (by omega) k,hat];split<;>simp
theorem Ff.got{T:Two}{X:Sto}(h:Ff H T (some X) ls){C:Con}(hl:l∈ls)(hf:E9 H.flipped T bs C l.flushed)(hL:JQ H l)(hs:NP T X bs C l){p:M.Lif->Bool}(hp:p l=true):Ff H T (some X) (ls.filter p)/\0<(ls.filter p).length:=by
 have hin:l∈ls.filter p:=List.mem_filter.2 ⟨hl,hp⟩;refine⟨h.keep rfl rfl id (List.length_filter_le ..) (fun y hy=>?_) ⟨bs,C,l,hin,hf,hL,hs⟩,List.length_pos_of_mem hin⟩;have:=(List.mem_filter.1 hy).1;exact⟨y,this,h.any y this,rfl,rfl⟩
def Zy(bad:Prop)(T:Two)(X:Sto)(C:Con)(ec:Int)(X':Sto)(T':Two):Prop:=
 (X.dead=true/\ec=10/\X'=X/\T'=T)\/(X.dead=false/\X.BI=false/\ec=0/\X'=X/\T'=T) \/
 (X.dead=false/\X.BI=true/\T'.dsk.BS/\((ec=0/\Uh T X (Eu X C List.length X.keys.length) X' T')\/∃c:Nat,ec=(c:Int)/\MU T X (Eu X C List.length X.keys.length) bad c X' T'))
theorem JQ.QO(h:JQ H l):Kw (facts l.flushed.AB)<=26*H.calls+2*H.bytes:=by
 obtain⟨more,e⟩:=h.pre;have:=h.cost;rw[e]at this;unfold facts at this;rw[List.map_append]at this;unfold Kw at this⊢;rw[List.map_append,List.sum_append]at this;unfold facts;omega
theorem E9.zEF{T:Two}{C:Con}(h:E9 fp T bs C l.flushed)(hF:T.dsk.BS)(hl:JQ H l)(hc:H.calls<=1048576/\H.bytes<=4194304):S.len T.a<=18+(26*H.calls+2*H.bytes):=by
 rcases h.lies.len hF with⟨_,_,e⟩|⟨e,_⟩
 .rw[e];simp[S.len]
 .rw[<-e];have h0:=hl.QO;have h1:=UN (L:=facts l.flushed.AB) h.fil.ord (fun r hr=>by
   obtain⟨v,hv,h4⟩:=LZ (h.fil.holds r.key).tells (Cx.2 ⟨hr,rfl⟩);obtain⟨n,g1,_⟩:=h.keeps r.key;rw[g1]at hv;exact⟨v,List.mem_of_mem_take hv,h4⟩)
  have:=Kt (wm:=l.flushed.water) h.fil.ok h.w2 (by omega);omega
theorem Vj{T:Two}{C V:Con}(hcap:T.cap=H.cap)(hF:T.dsk.BS)(hf:E9 H.flipped T bs C l.flushed)(hL:JQ H l)(hc:H.calls<=1048576/\H.bytes<=4194304)(hV:∀k v,v∈V k->v∈fv (facts l.now.AB) k)(hfull:Full T V)(n:Nat)(hn:H.calls<=n):M.Hou.roomy { H with calls:=n }=false:=by
 obtain⟨R,h1,h2,h3⟩:=hfull;have h4:=UN (L:=facts l.now.AB) h1 (fun r hr=>by
  obtain⟨v,hv,h4⟩:=h2 r hr;exact⟨v,hV _ v hv,h4⟩)
 have h5:=hf.zEF hF hL hc;have h6:=hL.cost;unfold M.Hou.roomy;apply decide_eq_false;simp only;omega
theorem Keeps.Eu{X:Sto}{bs:List (List Rec)}{C:Con}{L:List FD}(h:Keeps X C L)(hg:X.Good bs C)(kv:List Vs->Nat):∀k v,v∈S.Eu X C kv X.keys.length k->v∈fv L k:=fun k v hv=>by
 rw[Lx hg]at hv;exact h.mem (List.mem_of_mem_take hv)
theorem WN(hd:x.dead=false)(h:e=9\/e=3):x.flush e false=(x,true):=by
 unfold M.Lif.flush;rw[hd,if_neg (by simp),if_neg (by simp),if_neg (by omega)];rw[decide_eq_true (by omega)]
theorem dh(x:M.Lif)(e:Int)(d:Bool):(x.flush e d).1.now=x.now/\((x.flush e d).1.flushed=x.flushed\/(x.flush e d).1.flushed=x.now):=by
 unfold M.Lif.flush;split
 .exact⟨rfl,Or.inl rfl⟩
 split
 .exact⟨rfl,Or.inl rfl⟩
 split
 .exact⟨rfl,Or.inr rfl⟩
 .exact⟨rfl,Or.inl rfl⟩
theorem Es.flush{H H':M.Hou}{x:M.Lif}(h:Es H x)(hc:H.calls<=H'.calls)(e:Int)(d:Bool):Es H' (x.flush e d).1:=by
 obtain⟨e1,e2⟩:=dh x e d;have h1:=h.fl;have h2:=h.nl;rcases e2 with e2|e2
 .exact⟨by rw[e2];omega,by rw[e1];omega,by rw[e2];exact h.fs,by rw[e1];exact h.ns⟩
 .exact⟨by rw[e2];omega,by rw[e1];omega,by rw[e2];exact h.ns,by rw[e1];exact h.ns⟩
theorem UA{d:Bool}(h:M.EO e d x=some y):(x.flush e d).2=true/\y=(x.flush e d).1:=by
 unfold M.EO at h;split at h
 .rename_i h1;injection h with h;exact⟨h1,h.symm⟩
 .cases h
theorem Jz.same{T T':Two}{fl:Int}(h:Jz fp T bs fl)(e:T'.a=T.a):Jz fp T' bs fl:=by
 unfold Jz at h⊢;rw[e];exact h
theorem E9.same{fp:Bool}{T T':Two}{bs:List (List Rec)}{C:Con}{s:M.Sta}(h:E9 fp T bs C s)(e:T'.a=T.a):E9 fp T' bs C s:=⟨h.lies.same e,h.fil,h.w1,h.w2,h.keeps⟩
theorem Ku{T':Two}{X:Sto}{bs':List (List Rec)}{C V:Con}(hg:X.Good bs C)(hw:X.wm=l.now.water)(hF:T'.dsk.BS)(hfil:Fil CU bs' V)(ha:T'.a=some (Aa bs' X.wm,(Aa bs' X.wm).length))(hk:∀nw,Keeps (X.laid nw) V (facts l.now.AB)):E9 fp T' bs' V l.now:=by
 have h1:=hg.rP;have h2:=hg.lG;have h3:=hg.top;rw[hw]at ha;refine⟨Jz.whole hF hfil.ok (by omega) (by omega) ha,hfil,by omega,by omega,fun k=>?_⟩;obtain⟨n,g1,g2⟩:=hk [] k;rw[Sto.OZ]at g1;refine⟨n,g1,?_⟩;rw[<-hw];exact g2
theorem Jg(X:Sto)(nw:List (BA×Int)):(X.laid nw).BI=false:=by
 unfold Sto.BI Sto.laid;simp
theorem Ff.flush{H:M.Hou}{T T':Two}{X X':Sto}{ls:List M.Lif}{ec:Int}(h:Ff H T (some X) ls)(hc:H.calls<=1048576/\H.bytes<=4194304){bs:List (List Rec)}{C:Con}{l:M.Lif}(hl:l∈ls)(hf:E9 H.flipped T bs C l.flushed)(hL:JQ H l)(hs:NP T X bs C l)(ho:Zy (H.flipped=true) T X C ec X' T'):
  M.Hou.allows { H with calls:=H.calls+1 } ec=true/\Ff { H with calls:=H.calls+1,flushed:=H.flushed || decide (ec=0),quiet:=decide (ec=0)} T' (some X') (ls.filterMap fun x=>M.EO ec T'.dead x)/\0<(ls.filterMap fun x=>M.EO ec T'.dead x).length:=by
 have hmem:∀y∈ls.filterMap (fun x=>M.EO ec T'.dead x),∃x∈ls,(x.flush ec T'.dead).2=true/\y=(x.flush ec T'.dead).1:=fun y hy=>by
  obtain⟨x,hx,e⟩:=List.mem_filterMap.1 hy;exact⟨x,hx,UA e⟩
 have hput:∀x∈ls,(x.flush ec T'.dead).2=true->(x.flush ec T'.dead).1∈ls.filterMap (fun x=>M.EO ec T'.dead x):=fun x hx e=>List.mem_filterMap.2 ⟨x,hx,by unfold M.EO;rw[if_pos e]⟩;have hlen:(ls.filterMap fun x=>M.EO ec T'.dead x).length<=ls.length:=List.length_filterMap_le ..;generalize ls.filterMap (fun x=>M.EO ec T'.dead x)=ls' at hmem hput hlen⊢;rcases ho with⟨hd,rfl,rfl,rfl⟩|⟨hd,hp,rfl,rfl,rfl⟩|⟨hd,hp,hF',ho⟩
 .have htd:T'.dead=true:=by rw[<-hs.td];exact hd
  have hsame:∀x∈ls,x.flush 10 T'.dead=(x,true):=fun x hx=>by
   unfold M.Lif.flush;rw[if_pos (h.gone (by simp) htd x hx)];rfl
  have hin:=hput l hl (by rw[hsame l hl]);rw[hsame l hl]at hin;refine⟨by simp[M.Hou.allows],h.keep rfl rfl (fun e=>by simp at e) hlen (fun y hy=>?_) ⟨bs,C,l,hin,hf,hL.more (by simp only;omega) (zLK _),hs⟩,List.length_pos_of_mem hin⟩;obtain⟨x,hx,_,e⟩:=hmem y hy;rw[hsame x hx]at e;subst e;exact⟨y,hx,(h.any y hx).more (by simp only;omega),rfl,rfl⟩
 .have htd:T'.dead=false:=by rw[<-hs.td];exact hd
  have hld:l.dead=false:=by rw[<-hs.dead];exact hd
  have hlp:l.pending=false:=by rw[<-hs.pend];exact hp
  have e1:l.flush 0 T'.dead=(l,true):=by
   unfold M.Lif.flush;rw[hld,htd,if_neg (by simp),if_neg (by simp),if_pos rfl];have:=hL.idle hlp;obtain⟨lf,ln,lp,ld,la⟩:=l;simp only at this hlp hld;subst this hlp hld;rfl
  have hin:=hput l hl (by rw[e1]);rw[e1]at hin;refine⟨by simp[M.Hou.allows],h.alive htd htd rfl rfl rfl h.fine id (hs.b htd) hlen (fun y hy=>?_) ⟨bs,C,l,hin,hf,hL.more (by simp only;omega) (zLK _),hs⟩,List.length_pos_of_mem hin⟩;obtain⟨x,hx,_,rfl⟩:=hmem y hy;refine⟨(h.any x hx).flush (by simp only;omega) _ _,x,hx,?_⟩;rw[htd];unfold M.Lif.flush;split
  .rfl
  .rfl
 .have htd:T.dead=false:=by rw[<-hs.td];exact hd
  have hld:l.dead=false:=by rw[<-hs.dead];exact hd
  have kI:T'.dead=false->∀x:M.Lif,(x.flush ec T'.dead).1.late=x.late:=fun e x=>by
   rw[e];unfold M.Lif.flush;split
   .rfl
   rw[if_neg (by simp)];split<;>rfl
  rcases ho with⟨rfl,hg⟩|⟨c,rfl,hb⟩
  .obtain⟨bs',nw,rfl,h1,h2,h3,h4,h5,h6,h7,h8⟩:=hg;have e1:l.flush 0 T'.dead=({ l with flushed:=l.now,pending:=false },true):=by
    unfold M.Lif.flush;rw[hld,h7,if_neg (by simp),if_neg (by simp),if_pos rfl];rfl
   have hin:=hput l hl (by rw[e1]);rw[e1]at hin;have hk:∀nw,Keeps (X.laid nw) (Eu X C List.length X.keys.length) (facts l.now.AB):=fun nw=>hs.keeps.flush hs.good nw;refine⟨by simp[M.Hou.allows],h.alive htd h7 h4 rfl rfl hF' h8 h6 hlen (fun y hy=>?_) ⟨bs',_,_,hin,Ku hs.good hs.wm hF' h1 h5 hk,⟨hL.AB,⟨[],by simp⟩,fun _=>rfl,?_,?_⟩,⟨hs.good.laid h1 h2 (by omega),hs.wm,hs.wm,?_,Jg X nw,hk nw,?_,fun _=>h6⟩⟩,List.length_pos_of_mem hin⟩
   .obtain⟨x,hx,_,rfl⟩:=hmem y hy;exact⟨(h.any x hx).flush (by simp only;omega) _ _,x,hx,kI h7 x⟩
   .have:=hL.cost;simp only;omega
   .have:=hL.len;simp only;omega
   .exact hs.dead
   ·(show X.dead=_);rw[h7];exact hd
  .rcases hb with⟨rfl,rfl,hD⟩|⟨rfl,rfl,hB,hfull⟩|⟨hbad,rfl,rfl,hB⟩
   .have hdd:=hD.dead;have e1:∀x:M.Lif,(x.flush (10:Nat) T'.dead).2=true/\(x.flush (10:Nat) T'.dead).1.dead=true:=fun x=>by
     rw[hdd];unfold M.Lif.flush;by_cases hx:x.dead=true
     .rw[if_pos hx];exact⟨rfl,hx⟩
     .rw[if_neg hx,if_pos rfl];exact⟨rfl,rfl⟩
    have e2:l.flush (10:Nat) T'.dead=({ l with dead:=true,late:=true },true):=by
     rw[hdd];unfold M.Lif.flush;rw[hld,if_neg (by simp),if_pos rfl];rfl
    have hin:=hput l hl (e1 l).1;rw[e2]at hin;refine⟨by simp[M.Hou.allows],h.zHW htd hD rfl rfl (by simp) hF' hlen (fun y hy=>?_) ⟨bs,C,_,hin,hf.same hD.a,⟨hL.AB,hL.pre,hL.idle,?_,?_⟩,⟨?_,hs.wm,hs.fl,rfl,hs.pend,hs.keeps,hdd.symm,fun e=>by rw[hdd]at e;cases e⟩⟩,List.length_pos_of_mem hin⟩
    .obtain⟨x,hx,_,rfl⟩:=hmem y hy;exact⟨(h.any x hx).flush (by simp only;omega) _ _,(e1 x).2⟩
    .have:=hL.cost;simp only;omega
    .have:=hL.len;simp only;omega
    .have hg:=hs.good;exact⟨⟨hg.ok.Qx,hg.ok.Dn,hg.ok.Pg,hg.ok.Ro,hg.ok.each⟩,hg.fil,hg.newest,hg.pend,hg.newer,hg.rP,hg.lG,hg.top⟩
   ·(have e2:l.flush (9:Nat) T'.dead=(l,true):=by rw[hB.alive];exact WN hld (Or.inl rfl));have hin:=hput l hl (by rw[e2]);rw[e2]at hin;have hro:=Vj h.cap h.fine hf hL hc (hs.keeps.Eu hs.good List.length) hfull (H.calls+1) (by omega);refine⟨by unfold M.Hou.allows;rw[if_pos (by decide),hro];rfl,h.alive htd hB.alive hB.cap rfl rfl hF' hB.Ae hB.b hlen (fun y hy=>?_) ⟨bs,C,l,hin,hf.same hB.a,hL.more (by simp only;omega) (zLK _),⟨hs.good,hs.wm,hs.fl,hs.dead,hs.pend,hs.keeps,by rw[hB.alive];exact hd,fun _=>hB.b⟩⟩,List.length_pos_of_mem hin⟩;obtain⟨x,hx,_,rfl⟩:=hmem y hy;exact⟨(h.any x hx).flush (by simp only;omega) _ _,x,hx,kI hB.alive x⟩
   ·(have e2:l.flush (3:Nat) T'.dead=(l,true):=by rw[hB.alive];exact WN hld (Or.inr rfl));have hin:=hput l hl (by rw[e2]);rw[e2]at hin;refine⟨by unfold M.Hou.allows;rw[if_neg (by decide)];simp[hbad],h.alive htd hB.alive hB.cap rfl rfl hF' hB.Ae hB.b hlen (fun y hy=>?_) ⟨bs,C,l,hin,hf.same hB.a,hL.more (by simp only;omega) (zLK _),⟨hs.good,hs.wm,hs.fl,hs.dead,hs.pend,hs.keeps,by rw[hB.alive];exact hd,fun _=>hB.b⟩⟩,List.length_pos_of_mem hin⟩;obtain⟨x,hx,_,rfl⟩:=hmem y hy;exact⟨(h.any x hx).flush (by simp only;omega) _ _,x,hx,kI hB.alive x⟩
end S
structure GJ(w:World)(tg:Tags)(m rr o od h:Nat)(H:M.Hou)(T:S.Two)(X:Option S.Sto)(ls:List M.Lif):Prop where
 at_:Di w tg rr o od h H T X ls
 ok:S.Ff H T X ls
 env:vJ w tg m rr o od
 calls:H.calls<=524288
 bytes:H.bytes<=2097152
theorem DW{more:Nat}{T':S.Two}{X':Option S.Sto}{e:Ending}(hE:vJ w tg m rr o od)(he:e=.returned (.bool true))(k:Turn P tg w Cr w')(hP:∀x,P x->Mine rr o od x)(hh:Di w' Cr rr o od h H' T' X' ls')(hok:S.Ff H' T' X' ls')(h1:H'.calls<=H.calls+2)(h2:H'.bytes<=H.bytes+more)(hR:R H' X'):Bf m rr o od h H more R tg w e w':=by
 obtain⟨AU,g1,g2,g3⟩:=Di.clean hE k hP hh;exact⟨he,AU,H',T',X',ls',g1,hok,g2,g3,h1,h2,hR⟩
theorem Mt{X:Option S.Sto}(h:S.Ff H T X (L.map fun x=>x.l))(hc:H.calls<=524288):L.length<=1048576/\∀x∈L,x.l.now.AB.length<=1048576:=by
 have h1:=h.few;rw[zM2]at h1;refine⟨by omega,fun x hx=>?_⟩;have:=(h.any x.l (List.mem_map.2 ⟨x,hx,rfl⟩)).nl;omega
theorem Y9(hA:GJ w tg m rr o od h H T (some X) ls)(v:M.Ver)(hvk:v.key.size<=1048576)(hvv:v.value.size<=1048576)(hvg:v.gone=true->v.value=⟨#[]⟩):
  Calls Tryz.prog 30 #[pT h,FK v] w fun e w'=>Bf m rr o od h H (v.key.size+v.value.size) (Ju H) tg w e w':=by
 obtain⟨⟨d,sv,lo,lc,L,ids,ps,rfl,hH,hD,s,Al,ps',rfl,hS⟩,hok,hE,hc,hb⟩:=hA;obtain⟨bs,C,l,hl,hf,hL,hs⟩:=hok.core;obtain⟨g1,g2⟩:=Mt hok hc;refine(kD hH hS hs.good.ok (hs.keeps.pend hs.good (by have:=hL.len;unfold S.facts;rw[zM2];omega)) hE.n1 g1 (by omega) (by omega) g2 v hvk hvv hvg (fun ha=>S.Ko hs.good.ok (r:=v.rc) (hs.good.Mg ha))).mono ?_;rintro e w'⟨AU,L',lo',IC,Q5,ps2,rfl,hm,dU,hS',hK⟩;obtain⟨k1,k2⟩:=hok.put (by omega) v hvg;rw[List.filterMap_map]at k1 k2;have hm2:L'.map (fun x=>x.l)=L.filterMap ((fun x=>M.putting (X.adding v.rc) v x)∘fun x=>x.l):=hm;rw[<-hm2]at k1 k2;rw[zM2]at k2;exact DW hE (by rw[decide_eq_true k2]) (Turn.Ed hK) (fun x e=>by rcases e with e|e<;>simp[Mine,e]) ⟨d,_,lo',IC,L',ids,ps,rfl,dU,hD.keep hK.size hK.tags (fun k hk e=>hK.block k hk (by rw[e];rintro(e|e);exact hE.n3 e.symm;exact hE.n2 e.symm)),En hS'⟩ k1 (by simp) (by simp only;omega) ⟨rfl,rfl,rfl⟩
theorem aT(hA:GJ w tg m rr o od h H T (some X) ls)(t:Int):
  Calls Tryz.prog 32 #[pT h,iT t] w fun e w'=>Bf m rr o od h H 0 (Ju H) tg w e w':=by
 obtain⟨⟨d,sv,lo,lc,L,ids,ps,rfl,hH,hD,s,Al,ps',rfl,hS⟩,hok,hE,hc,hb⟩:=hA;obtain⟨g1,g2⟩:=Mt hok hc;apply(WA hH hS hE.n1 g1 (by omega) t).mono;rintro e w'⟨AU,L',lo',IC,rfl,hm,dU,hS',hK⟩;obtain⟨k1,k2⟩:=hok.raise t;rw[List.filterMap_map]at k1 k2;have hm2:L'.map (fun x=>x.l)=L.filterMap ((fun x=>M.raised (X.raising t) t x)∘fun x=>x.l):=hm;rw[<-hm2]at k1 k2;rw[zM2]at k2;exact DW hE (by rw[decide_eq_true k2]) (Turn.Ed hK) (fun x e=>by rcases e with e|e<;>simp[Mine,e]) ⟨d,_,lo',IC,L',ids,ps,rfl,dU,hD.keep hK.size hK.tags (fun k hk e=>hK.block k hk (by rw[e];rintro(e|e);exact hE.n3 e.symm;exact hE.n2 e.symm)),En hS'⟩ k1 (by simp) (by simp) ⟨rfl,rfl,rfl⟩
theorem oJ(hA:GJ w tg m rr o od h H T (some X) ls)(k:BA)(t:Int):
  Calls Tryz.prog 31 #[pT h,sT k,iT t] w fun e w'=>Bf m rr o od h H 0 (Ju H) tg w e w':=by
 obtain⟨⟨d,sv,lo,lc,L,ids,ps,rfl,hH,hD,s,Al,ps',rfl,hS⟩,hok,hE,hc,hb⟩:=hA;obtain⟨bs,C,l,hl,hf,hL,hs⟩:=hok.core;obtain⟨g1,g2⟩:=Mt hok hc;have GA:=lC (AU:=tg) (od:=od) (D:=T.dsk) (bad:=H.flipped=true) (bs:=bs) (wm:=l.flushed.water) (C:=C) hS hs.good (fun e=>⟨hD,hok.fine,hf.on (by rw[<-hs.td];exact e)⟩) hE.tab k t;refine(kE (Ans:=fun gv gt gc=>(X.asking k t=0/\gv=(S.told (S.Ak (X.con C k) t)).1/\gt=(S.told (S.Ak (X.con C k) t)).2/\gc=0)\/(H.flipped=true/\gv=⟨#[]⟩/\gt=false/\gc=3)\/(X.asking k t≠0/\gv=⟨#[]⟩/\gt=false/\gc=X.asking k t)) hH g1 g2 (GA.mono ?_)).mono ?_
 .rintro e w'⟨he,q⟩;refine⟨?_,q⟩;by_cases ha:X.asking k t=0
  .rw[if_pos ha]at he;rcases he with he|⟨hbad,he⟩
   .exact⟨_,_,_,Or.inl ⟨ha,rfl,rfl,rfl⟩,he⟩
   .exact⟨_,_,_,Or.inr (Or.inl ⟨hbad,rfl,rfl,rfl⟩),he⟩
  .rw[if_neg ha]at he;exact⟨_,_,_,Or.inr (Or.inr ⟨ha,rfl,rfl,rfl⟩),he⟩
 .rintro e w'⟨gv,gt,gc,zBL,hc2⟩;rcases hc2 with⟨h3,hfl,rfl,q⟩|⟨hn,AU,lo',IC,rfl,dU,hK⟩
  .have hz:gv=⟨#[]⟩/\gt=false:=by
    rcases zBL with⟨_,_,_,e⟩|⟨_,e1,e2,_⟩|⟨_,e1,e2,_⟩
    .rw[e]at h3;cases h3
    .exact⟨e1,e2⟩
    .exact⟨e1,e2⟩
   obtain⟨rfl,rfl⟩:=hz;have hK:Kept (fun _=>False) tg w tg w':=Kept.Be q (fun _ _=>rfl);exact DW hE (by rw[show(⟨#[]⟩:BA).toList=[]from by rw[Lib.toList_data]];rfl) (Turn.Ed hK) (fun x e=>e.elim) ⟨d,_,lo,lc,L,ids,ps,rfl,hH.keep hK (fun e=>e),hD.keep hK.size hK.tags (fun k hk e=>hK.block k hk (fun e=>e)),En (hS.keep hK.size hK.tags (fun k hk e=>hK.block k hk (fun e=>e)))⟩ hok (by simp) (by simp) ⟨rfl,rfl,rfl⟩
  .have htl:M.tells k t gv gt gc l=true:=by
    obtain⟨t1,t2⟩:=S.kz hs hL.AB k t;rcases zBL with⟨e0,e1,e2,e3⟩|⟨e0,e1,e2,e3⟩|⟨e0,e1,e2,e3⟩
    .rw[e1,e2,e3];exact t1 e0
    .exact absurd ⟨e3,e0⟩ hn
    .rw[e1,e2,e3];exact t2 e0
   obtain⟨k1,k2⟩:=hok.got hl hf hL hs htl;rw[List.filter_map]at k1 k2;have hm2:(L.filter fun x=>M.tells k t gv gt gc x.l)=L.filter ((fun l=>M.tells k t gv gt gc l)∘fun x=>x.l):=rfl;rw[<-hm2]at k1 k2;rw[zM2]at k2;exact DW hE (by rw[decide_eq_true k2]) (Turn.Ed hK) (fun x e=>Or.inl e) ⟨d,_,lo',IC,_,ids,ps,rfl,dU,hD.keep hK.size hK.tags (fun k hk e=>hK.block k hk (by rw[e];exact fun e=>hE.n2 e.symm)),En (hS.keep hK.size hK.tags (fun k hk e=>hK.block k hk (by rw[e];exact fun e=>hE.n1 e.symm)))⟩ k1 (by simp) (by simp) ⟨rfl,rfl,rfl⟩
namespace S
theorem Vm{wm:Int}:∀{V:List Vs}{v:Vs},v∈V.take (needs wm V)->wm<v.stamp\/(Ak V wm=some v/\v.val≠none)
 |[],v,h=>by simp at h
 |x::V,v,h=>by
  simp only[needs]at h;rw[Np];by_cases h1:wm<x.stamp
  .rw[if_pos h1,List.take_succ_cons]at h;rw[if_neg (by omega)];rcases zME.1 h with rfl|h
   .exact Or.inl h1
   .exact Vm h
  .rw[if_neg h1]at h;rw[if_pos (by omega)];by_cases h2:x.val=none
   .rw[if_pos h2]at h;simp at h
   .rw[if_neg h2]at h;simp at h;subst h;exact Or.inr ⟨rfl,h2⟩
theorem jM(hv:Ea s.AB)(h:s.water<(Gz v).vs.stamp\/(Ak (fv (facts s.AB) v.key) s.water=some (Gz v).vs/\(Gz v).vs.val≠none)):s.needed v=true:=by
 unfold M.Sta.needed;rcases h with h|⟨h1,h2⟩
 .rw[decide_eq_true (show s.water<v.stamp from h)];rfl
 .have ha:=uz hv s.water v.key s.water;rw[show(⟨s.AB,s.water⟩:M.Sta)=s from rfl]at ha;unfold Um at ha;rw[h1]at ha;simp only at ha;have e:(s.at v.key s.water).stamp=v.stamp:=congrArg Vs.stamp ha.2.1;have hg:v.gone=false:=by
   cases hgo:v.gone with
   |false=>rfl
   |true=>exfalso;apply h2;simp[Gz,FD.vs,hgo]
  rw[decide_eq_true e,hg];simp
theorem jd{V:Con}(hv:Ea l.now.AB)(hF:Fil CU bs V)(hV:∀k,∃n,V k=(fv (facts l.now.AB) k).take n/\n<=needs l.now.water (fv (facts l.now.AB) k))(hw:l.now.water<=1099511627776)(hs:(Aa bs l.now.water).length<=1048576):(Aa bs l.now.water).length<=l.lean:=by
 have hc:costs bs.flatten<=(l.now.AB.map l.now.weight).sum:=by
  refine Ov UQ l.now.weight (fun r v=>v.key=r.key/\v.stamp=r.stamp) bs.flatten l.now.AB (hF.ord.imp fun{a b}hab f h1 h2=>?_) (fun r hr=>?_)
  .rcases hab with hab|hab
   .exact Ev hab (h1.1.symm.trans h2.1)
   .have:=h1.2.symm.trans h2.2;omega
  .obtain⟨x,hx,h1,h2⟩:=LZ (hF.holds r.key).tells (Cx.2 ⟨hr,rfl⟩);obtain⟨n,g1,g2⟩:=hV r.key;rw[g1]at hx;have hx2:x∈(fv (facts l.now.AB) r.key).take (needs l.now.water (fv (facts l.now.AB) r.key)):=by
    rw[<-Nat.min_eq_left g2,<-List.take_take]at hx;exact List.mem_of_mem_take hx
   obtain⟨f,hf,hk,rfl⟩:=Zk (List.mem_of_mem_take hx);obtain⟨v,hv1,rfl⟩:=lT hf;refine⟨v,hv1,⟨hk,h1⟩,?_⟩;have hn:l.now.needed v=true:=jM hv (by
    have:=Vm hx2;rw[show(Gz v).key=v.key from rfl]at hk;rw[hk];exact this)
   unfold M.Sta.weight;rw[if_pos hn];have hsz:(Gz v).vs.size<=v.value.size:=by
    unfold Vs.size FD.vs Gz
    cases v.gone<;>simp
   (have hk2:v.key.size=r.key.size:=by rw[show v.key=r.key from hk]);unfold UQ;omega
 have zFS:costs bs.flatten<=100000000\/100000000<costs bs.flatten:=by omega
 unfold M.Lif.lean;rcases zFS with h|h
 .have:=Kt (wm:=l.now.water) hF.ok hw h;omega
 .omega
def nE(bad:Prop)(T:Two)(X:Sto)(C:Con)(ec:Int)(X':Sto)(T':Two):Prop:=
 (X.dead=true/\ec=10/\X'=X/\T'=T)\/(X.dead=false/\X.BI=true/\ec=13/\X'=X/\T'=T) \/
 (X.dead=false/\X.BI=false/\((¬Drops X C/\ec=0/\X'=X/\T'=T)\/(bad/\ec=3/\X'=X/\T'=T) \/
  (T'.dsk.BS/\((ec=0/\Uh T X (Eu X C (needs X.wm) X.keys.length) X' T')\/∃c:Nat,ec=(c:Int)/\MU T X (Eu X C (needs X.wm) X.keys.length) bad c X' T'))))
theorem Qc{d:Bool}(h:M.Bd e d n x=some y):(x.compact e d).2=true/\y=(x.compact e d).1:=by
 unfold M.Bd at h;split at h
 .rename_i h1;injection h with h;exact⟨h1.1,h.symm⟩
 .cases h
theorem MJ(x:M.Lif)(e:Int)(d:Bool):(x.compact e d).1.now=x.now/\(x.compact e d).1.flushed=x.flushed/\(x.compact e d).1.late=x.late/\(x.compact e d).1.pending=x.pending/\((x.compact e d).1.dead=x.dead\/d=true):=by
 unfold M.Lif.compact;split
 .exact⟨rfl,rfl,rfl,rfl,Or.inl rfl⟩
 split
 .rename_i h;exact⟨rfl,rfl,rfl,rfl,Or.inr h⟩
 split<;>exact⟨rfl,rfl,rfl,rfl,Or.inl rfl⟩
theorem Es.compact{H H':M.Hou}{x:M.Lif}(h:Es H x)(hc:H.calls<=H'.calls)(e:Int)(d:Bool):Es H' (x.compact e d).1:=by
 obtain⟨e1,e2,_⟩:=MJ x e d;have h1:=h.fl;have h2:=h.nl;exact⟨by rw[e2];omega,by rw[e1];omega,by rw[e2];exact h.fs,by rw[e1];exact h.ns⟩
theorem F7(hd:x.dead=false)(hp:x.pending=false)(h:e=0\/e=9\/e=3):x.compact e false=(x,true):=by
 unfold M.Lif.compact;rw[hd,hp,if_neg (by simp),if_neg (by simp),if_neg (by simp),decide_eq_true h]
theorem Ff.compact{H:M.Hou}{T T':Two}{X X':Sto}{ls:List M.Lif}{ec:Int}(h:Ff H T (some X) ls)(hc:H.calls<=1048576/\H.bytes<=4194304){bs:List (List Rec)}{C:Con}{l:M.Lif}(hl:l∈ls)(hf:E9 H.flipped T bs C l.flushed)(hL:JQ H l)(hs:NP T X bs C l)(ho:nE (H.flipped=true) T X C ec X' T')(k:Nat):
  M.Hou.allows { H with calls:=H.calls+1 } ec=true/\Ff { H with calls:=H.calls+k,quiet:=decide (ec=0)} T' (some X') (ls.filterMap fun x=>M.Bd ec T'.dead (M.total T'.dsk.files) x)/\0<(ls.filterMap fun x=>M.Bd ec T'.dead (M.total T'.dsk.files) x).length:=by
 have hmem:∀y∈ls.filterMap (fun x=>M.Bd ec T'.dead (M.total T'.dsk.files) x),∃x∈ls,(x.compact ec T'.dead).2=true/\y=(x.compact ec T'.dead).1:=fun y hy=>by
  obtain⟨x,hx,e⟩:=List.mem_filterMap.1 hy;exact⟨x,hx,Qc e⟩
 have hput:∀x∈ls,(x.compact ec T'.dead).2=true->(ec≠0\/M.total T'.dsk.files<=(x.compact ec T'.dead).1.lean)->(x.compact ec T'.dead).1∈ls.filterMap (fun x=>M.Bd ec T'.dead (M.total T'.dsk.files) x):=fun x hx e e2=>List.mem_filterMap.2 ⟨x,hx,by unfold M.Bd;rw[if_pos ⟨e,e2⟩]⟩;have hlen:(ls.filterMap fun x=>M.Bd ec T'.dead (M.total T'.dsk.files) x).length<=ls.length:=List.length_filterMap_le ..;generalize ls.filterMap (fun x=>M.Bd ec T'.dead (M.total T'.dsk.files) x)=ls' at hmem hput hlen⊢;have hany:∀(H':M.Hou),H.calls<=H'.calls->∀y∈ls',Es H' y/\∃x∈ls,y.late=x.late:=fun H' hH y hy=>by
  obtain⟨x,hx,_,rfl⟩:=hmem y hy;exact⟨(h.any x hx).compact hH _ _,x,hx,(MJ x _ _).2.2.1⟩
 have htot:M.total T'.dsk.files=S.len T'.a+S.len T'.b:=Two.LX T';have hcount:∀q,H.calls<=(M.Hou.mk H.cap H.flushed (H.calls+k) H.bytes H.flipped q H.armed).calls:=fun q=>by show H.calls<=H.calls+k;omega
 rcases ho with⟨hd,rfl,rfl,rfl⟩|⟨hd,hp,rfl,rfl,rfl⟩|⟨hd,hp,ho⟩
 .have htd:T'.dead=true:=by rw[<-hs.td];exact hd
  have hsame:∀x∈ls,x.compact 10 T'.dead=(x,true):=fun x hx=>by
   unfold M.Lif.compact;rw[if_pos (h.gone (by simp) htd x hx)];rfl
  have hin:=hput l hl (by rw[hsame l hl]) (Or.inl (by decide));rw[hsame l hl]at hin;refine⟨by simp[M.Hou.allows],h.keep rfl rfl (fun e=>by simp at e) hlen (fun y hy=>?_) ⟨bs,C,l,hin,hf,hL.more (hcount _) (zLK _),hs⟩,List.length_pos_of_mem hin⟩;obtain⟨x,hx,_,e⟩:=hmem y hy;rw[hsame x hx]at e;subst e;exact⟨y,hx,(h.any y hx).more (hcount _),rfl,rfl⟩
 .have htd:T'.dead=false:=by rw[<-hs.td];exact hd
  have hld:l.dead=false:=by rw[<-hs.dead];exact hd
  have hlp:l.pending=true:=by rw[<-hs.pend];exact hp
  have e1:l.compact 13 T'.dead=(l,true):=by
   unfold M.Lif.compact;rw[hld,htd,hlp,if_neg (by simp),if_neg (by simp),if_pos rfl];rfl
  have hin:=hput l hl (by rw[e1]) (Or.inl (by decide));rw[e1]at hin;exact⟨by simp[M.Hou.allows],h.alive htd htd rfl rfl rfl h.fine id (hs.b htd) hlen (hany _ (hcount _)) ⟨bs,C,l,hin,hf,hL.more (hcount _) (zLK _),hs⟩,List.length_pos_of_mem hin⟩
 .have htd:T.dead=false:=by rw[<-hs.td];exact hd
  have hld:l.dead=false:=by rw[<-hs.dead];exact hd
  have hlp:l.pending=false:=by rw[<-hs.pend];exact hp
  have hidle:=hL.idle hlp;have nK:=hs.wm;have hb0:=hs.b htd;have hpd:X.pend=[]:=by
   unfold Sto.BI at hp;simp only[decide_eq_false_iff_not]at hp;exact Classical.byContradiction fun e=>hp (Or.inl e)
  have hcon:X.con C=C:=by
   funext k;unfold Sto.con;rw[hpd];rfl
  rcases ho with⟨hnd,rfl,rfl,rfl⟩|⟨hbad,rfl,rfl,rfl⟩|⟨hF',ho⟩
  .have e1:l.compact 0 T'.dead=(l,true):=by rw[htd];exact F7 hld hlp (Or.inl rfl)
   have hsz:M.total T'.dsk.files<=l.lean:=by
    rw[htot,hb0];simp only[S.len,Option.map_none,Option.getD_none,Nat.add_zero];rcases hf.lies.len h.fine with⟨_,_,e⟩|⟨e,e2⟩
    .rw[e];simp
    .have hw2:=hf.w2;have e3:S.len T'.a=(Aa bs l.now.water).length:=by rw[hidle];exact e.symm
     have e4:S.len T'.a=(Option.map (fun p:List UInt8×Nat=>p.1.length) T'.a).getD 0:=rfl;rw[<-e4,e3];refine jd hL.AB hf.fil (fun k=>?_) (by rw[hidle];exact hw2) (by rw[hidle];exact e2);obtain⟨n,g1,g2⟩:=hs.keeps k;rw[hcon]at g1;have hle:(X'.con C k).length<=needs X'.wm (X'.con C k):=by
      refine Classical.byContradiction fun e=>hnd ⟨k,by omega⟩
     rw[hcon,g1,Fz g2,zM6,nK]at hle;refine⟨(C k).length,?_,?_⟩
     .rw[g1,zM6,List.take_eq_take_iff];omega
     .rw[g1,zM6];exact hle
   have hin:=hput l hl (by rw[e1]) (Or.inr (by rw[e1];exact hsz));rw[e1]at hin;exact⟨by simp[M.Hou.allows],h.alive htd htd rfl rfl rfl h.fine id hb0 hlen (hany _ (hcount _)) ⟨bs,C,l,hin,hf,hL.more (hcount _) (zLK _),hs⟩,List.length_pos_of_mem hin⟩
  .have e1:l.compact 3 T'.dead=(l,true):=by rw[htd];exact F7 hld hlp (Or.inr (Or.inr rfl))
   have hin:=hput l hl (by rw[e1]) (Or.inl (by decide));rw[e1]at hin;exact⟨by unfold M.Hou.allows;rw[if_neg (by decide)];simp[hbad],h.alive htd htd rfl rfl rfl h.fine id hb0 hlen (hany _ (hcount _)) ⟨bs,C,l,hin,hf,hL.more (hcount _) (zLK _),hs⟩,List.length_pos_of_mem hin⟩
  .rcases ho with⟨rfl,hg⟩|⟨c,rfl,hb⟩
   .obtain⟨bs',nw,rfl,h1,h2,h3,h4,h5,h6,h7,h8⟩:=hg;have e1:l.compact 0 T'.dead=(l,true):=by rw[h7];exact F7 hld hlp (Or.inl rfl)
    have hk:∀nw,Keeps (X.laid nw) (Eu X C (needs X.wm) X.keys.length) (facts l.now.AB):=fun nw=>hs.keeps.compact hs.good nw;have hfl:=Ku (fp:=H.flipped) hs.good hs.wm hF' h1 h5 hk;have hsz:M.total T'.dsk.files<=l.lean:=by
     rw[htot,h6,h5];simp only[S.len,Option.map_none,Option.getD_none,Nat.add_zero,zM1,zLT];have kH:=UC hF';rw[h5]at kH;simp only[S.len,zM1,zLT]at kH;rw[nK]at kH⊢;refine jd hL.AB h1 (fun k=>?_) hfl.w2 (by omega);obtain⟨n,g1,g2⟩:=hs.keeps k;rw[Lx hs.good,g1,Fz g2,List.take_take,<-nK];exact⟨_,rfl,Nat.min_le_left ..⟩
    have hin:=hput l hl (by rw[e1]) (Or.inr (by rw[e1];exact hsz));rw[e1]at hin;refine⟨by simp[M.Hou.allows],h.alive htd h7 h4 rfl rfl hF' h8 h6 hlen (hany _ (hcount _)) ⟨bs',_,l,hin,?_,hL.more (hcount _) (zLK _),⟨hs.good.laid h1 h2 (by omega),hs.wm,?_,hs.dead,?_,hk nw,?_,fun _=>h6⟩⟩,List.length_pos_of_mem hin⟩
    .rw[<-hidle];exact hfl
    ·(show X.wm=_);rw[<-hidle];exact nK
    .rw[Jg,hlp]
    ·(show X.dead=_);rw[h7];exact hd
   .rcases hb with⟨rfl,rfl,hD⟩|⟨rfl,rfl,hB,hfull⟩|⟨hbad,rfl,rfl,hB⟩
    .have hdd:=hD.dead;have e2:l.compact (10:Nat) T'.dead=({ l with dead:=true },true):=by
      rw[hdd];unfold M.Lif.compact;rw[hld,hlp,if_neg (by simp),if_pos rfl];rfl
     have hin:=hput l hl (by rw[e2]) (Or.inl (by decide));rw[e2]at hin;refine⟨by simp[M.Hou.allows],h.zHW htd hD rfl rfl (by simp) hF' hlen (fun y hy=>?_) ⟨bs,C,_,hin,hf.same hD.a,⟨hL.AB,hL.pre,hL.idle,?_,?_⟩,⟨?_,hs.wm,hs.fl,rfl,hs.pend,hs.keeps,hdd.symm,fun e=>by rw[hdd]at e;cases e⟩⟩,List.length_pos_of_mem hin⟩
     .refine⟨(hany _ (hcount _) y hy).1,?_⟩;obtain⟨x,hx,_,rfl⟩:=hmem y hy;rw[hdd];unfold M.Lif.compact;by_cases hxd:x.dead=true
      .rw[if_pos hxd];exact hxd
      .rw[if_neg hxd,if_pos rfl]
     .have:=hL.cost;simp only;omega
     .have:=hL.len;simp only;omega
     .have hg:=hs.good;exact⟨⟨hg.ok.Qx,hg.ok.Dn,hg.ok.Pg,hg.ok.Ro,hg.ok.each⟩,hg.fil,hg.newest,hg.pend,hg.newer,hg.rP,hg.lG,hg.top⟩
    ·(have e2:l.compact (9:Nat) T'.dead=(l,true):=by rw[hB.alive];exact F7 hld hlp (Or.inr (Or.inl rfl)));have hin:=hput l hl (by rw[e2]) (Or.inl (by decide));rw[e2]at hin;have hro:=Vj h.cap h.fine hf hL hc (hs.keeps.Eu hs.good _) hfull (H.calls+1) (by omega);exact⟨by unfold M.Hou.allows;rw[if_pos (by decide),hro];rfl,h.alive htd hB.alive hB.cap rfl rfl hF' hB.Ae hB.b hlen (hany _ (hcount _)) ⟨bs,C,l,hin,hf.same hB.a,hL.more (hcount _) (zLK _),⟨hs.good,hs.wm,hs.fl,hs.dead,hs.pend,hs.keeps,by rw[hB.alive];exact hd,fun _=>hB.b⟩⟩,List.length_pos_of_mem hin⟩
    ·(have e2:l.compact (3:Nat) T'.dead=(l,true):=by rw[hB.alive];exact F7 hld hlp (Or.inr (Or.inr rfl)));have hin:=hput l hl (by rw[e2]) (Or.inl (by decide));rw[e2]at hin;exact⟨by unfold M.Hou.allows;rw[if_neg (by decide)];simp[hbad],h.alive htd hB.alive hB.cap rfl rfl hF' hB.Ae hB.b hlen (hany _ (hcount _)) ⟨bs,C,l,hin,hf.same hB.a,hL.more (hcount _) (zLK _),⟨hs.good,hs.wm,hs.fl,hs.dead,hs.pend,hs.keeps,by rw[hB.alive];exact hd,fun _=>hB.b⟩⟩,List.length_pos_of_mem hin⟩
end S
def Dk(n:Nat)(tg:Tags):Tags:=fun k=>if k<n then tg k else(0,0)
theorem Ce(h:k<n):Dk n tg k=tg k:=by simp[Dk,h]
theorem GJ.tags{X:Option S.Sto}(hA:GJ w tg m rr o od h H T X ls):GJ w (Dk w.heap.size tg) m rr o od h H T X ls:=by
 have hE:=hA.env;exact⟨hA.at_.retag (fun k hk _=>Ce hk),hA.ok,⟨hE.tab,by rw[Ce (ES hE.tab)];exact hE.FP,fun k hk=>by rw[Ce hk];exact hE.low k hk,hE.n1,hE.n2,hE.n3,hE.l1,hE.l2,hE.l3,hE.p⟩,hA.calls,hA.bytes⟩
theorem Bf.tags{w w':World}{tg:Tags}{m rr o od h more:Nat}{H:M.Hou}{e:Ending}{R:M.Hou->Option S.Sto->Prop}(hA:Bf m rr o od h H more R (Dk w.heap.size tg) w e w'):Bf m rr o od h H more R tg w e w':=by
 obtain⟨he,AU,H',T',X',ls',g1,g2,g3,g4⟩:=hA;exact⟨he,AU,H',T',X',ls',g1,g2,⟨g3.os,g3.tape,g3.output,g3.size,fun k hk hn=>by rw[g3.tags k hk (by rw[Ce hk];exact hn),Ce hk],fun k hk hn=>g3.block k hk (by rw[Ce hk];exact hn)⟩,g4⟩
theorem iW{AR:Tags}{s:Nat}{Al ps':List Nat}(hE:vJ w tg m rr o od)(hlow:Low m AR w1)(k:Kept (·=rr) tg w AR w1)(hS:Ag w tg o s d X Al ps')(hD:AJ w tg od d T.dsk ids ps)(hok:S.Ff H T (some X) ls)(hf:S.E9 H.flipped T bs C l.flushed)(hs:S.NP T X bs C l)(hd:X.dead=false):Rdy w1 AR o od m s d T X bs C (H.flipped=true) l.flushed.water Al ps' ids ps:=by
 have hG:=ES hE.tab;have hm:=hE.FP;have htd:T.dead=false:=by rw[<-hs.td];exact hd
 have hfw:=hf.few hok.fine;refine⟨hS.keep k.size k.tags (fun i hi e=>k.block i hi (by rw[e];exact fun e=>hE.n1 e.symm)),hD.keep k.size k.tags (fun i hi e=>k.block i hi (by rw[e];exact fun e=>hE.n2 e.symm)),hok.fine,hf.on htd,hs.good,Cu hE.tab (k.block _ hG (fun e=>hm (Or.inl e))),?_,hE.n3,hs.b htd,htd,hlow,hE.l2,hE.l3,by omega⟩;rw[k.tags _ hG];exact⟨fun e=>hm (Or.inr (Or.inl e)),fun e=>hm (Or.inr (Or.inr e))⟩
theorem Hu(hl:Low m tg w)(hm:0<m):Low m (Dk w.heap.size tg) w1:=fun k _=>by
 unfold Dk;split
 .rename_i h;exact hl k h
 .exact hm
theorem aU(hA:GJ w tg m rr o od h H T (some X) ls):
  Calls Tryz.prog 33 #[pT h] w fun e w'=>Bf m rr o od h H 0 (Ju H) tg w e w':=by
 have kG:=hA.env.low;have hm0:0<m:=Nat.lt_of_le_of_lt (zLS _) hA.env.l1;refine Calls.mono ?_ (fun e w'(hx:Bf m rr o od h H 0 (Ju H) (Dk w.heap.size tg) w e w')=>hx.tags);have hA:=hA.tags;have hlow:∀w1,Low m (Dk w.heap.size tg) w1:=fun w1=>Hu kG hm0;generalize Dk w.heap.size tg=tg at hA hlow;obtain⟨⟨d,sv,lo,lc,L,ids,ps,rfl,hH,hD,s,Al,ps',rfl,hS⟩,hok,hE,hc,hb⟩:=hA;obtain⟨bs,C,l,hl,hf,hL,hs⟩:=hok.core;obtain⟨g1,g2⟩:=Mt hok hc;refine(Tp (Out:=fun ec Co D w3=>∃X' T' ids ps,D=S.Two.dsk T'/\Ag w3 Co o s d X' ids ps/\S.Zy (H.flipped=true) T X C ec X' T') (o:=o) (od:=od) hH ⟨hE.n1,hE.n2⟩ g1 (by omega) (by omega) ?_).mono ?_
 .intro w1 k;have hS1:Ag w1 tg o s d X Al ps':=hS.keep k.size k.tags (fun i hi e=>k.block i hi (by rw[e];exact fun e=>hE.n1 e.symm));have hD1:AJ w1 tg od d T.dsk ids ps:=hD.keep k.size k.tags (fun i hi e=>k.block i hi (by rw[e];exact fun e=>hE.n2 e.symm));by_cases hd:X.dead=true
  .apply(dm hS1 hd).mono;rintro e w2⟨rfl,q⟩;exact⟨10,tg,T.dsk,ids,ps,⟨X,T,Al,ps',rfl,hS1.keep q.below.size (fun _ _=>rfl) (fun i hi _=>q.below.block i hi),Or.inl ⟨hd,rfl,rfl,rfl⟩⟩,rfl,Kept.Be q (fun _ _=>rfl),hD1.keep q.below.size (fun _ _=>rfl) (fun i hi _=>q.below.block i hi),hok.fine⟩
  .have hd:X.dead=false:=by simpa using hd
   by_cases hp:X.BI=true
   .apply(rJ (iW hE (hlow w1) k hS hD hok hf hs hd) hd hp).mono;rintro e w2⟨c,AU,X',T',i1,i2,i3,i4,rfl,hK,hl',hS',hD',hF',hc⟩;refine⟨(c:Int),AU,T'.dsk,i3,i4,⟨X',T',i1,i2,rfl,hS',Or.inr (Or.inr ⟨hd,hp,hF',?_⟩)⟩,rfl,hK,hD',hF'⟩;rcases hc with⟨rfl,hg⟩|hg
    .exact Or.inl ⟨rfl,hg⟩
    .exact Or.inr ⟨c,rfl,hg⟩
   ·(have hp:X.BI=false:=by simpa using hp);apply(di hS1 hd hp).mono;rintro e w2⟨rfl,q⟩;exact⟨0,tg,T.dsk,ids,ps,⟨X,T,Al,ps',rfl,hS1.keep q.below.size (fun _ _=>rfl) (fun i hi _=>q.below.block i hi),Or.inr (Or.inl ⟨hd,hp,rfl,rfl,rfl⟩)⟩,rfl,Kept.Be q (fun _ _=>rfl),hD1.keep q.below.size (fun _ _=>rfl) (fun i hi _=>q.below.block i hi),hok.fine⟩
 .rintro e w'⟨ec,Co,D,w3,AU,L',lo',IC,a,b,⟨X',T',i1,i2,rfl,hS3,hout⟩,rfl,hm,dU,hD',hK,hK3⟩;obtain⟨k0,k1,k2⟩:=hok.flush (by omega) hl hf hL hs hout;rw[List.filterMap_map]at k1 k2;have hm2:L'.map (fun x=>x.l)=L.filterMap ((fun x=>M.EO ec T'.dead x)∘fun x=>x.l):=hm;rw[<-hm2]at k1 k2;rw[zM2]at k2;exact DW hE (by rw[k0,decide_eq_true k2];rfl) (Turn.Ed hK) (fun x e=>by rcases e with e|e|e<;>simp[Mine,e]) ⟨d,_,lo',IC,L',a,b,rfl,dU,hD',En (hS3.keep hK3.size hK3.tags (fun i hi e=>hK3.block i hi (by rw[e];exact fun e=>hE.n1 e.symm)))⟩ k1 (by simp) (by simp) ⟨rfl,rfl,rfl⟩
theorem pq(h1:x.now.AB.length<=1048576)(h2:∀v∈x.now.AB,v.key.size<=64/\v.value.size<=4096):x.lean<=1099511627776:=by
 have key:∀(vs:List M.Ver),(∀v∈vs,v.key.size<=64/\v.value.size<=4096)->(vs.map x.now.weight).sum<=8384*vs.length:=by
  intro vs
  induction vs with
  |nil=>intro _;simp
  |cons v vs ih =>
   intro hv;have h3:=ih (fun u hu=>hv u (List.mem_cons_of_mem _ hu));have h4:=hv v (List.mem_cons_self ..);have h5:x.now.weight v<=8384:=by
    unfold M.Sta.weight;split
    .omega
    .omega
   rw[zLx,List.sum_cons,zLQ];omega
 have:=key _ h2;unfold M.Lif.lean;omega
theorem S.jI(hg:X.Good bs C)(nw:List (BA×Int)):¬Drops (X.laid nw) (S.Eu X C (S.needs X.wm) X.keys.length):=by
 rintro⟨k,h⟩;rw[S.Sto.OZ,S.Lx hg]at h;have e:(X.laid nw).wm=X.wm:=rfl;rw[e,S.Ph,zM6]at h;omega
theorem VF(hA:GJ w tg m rr o od h H T (some X) ls):
  Calls Tryz.prog 34 #[pT h] w fun e w'=>Bf m rr o od h H 0 (Ju H) tg w e w':=by
 have kG:=hA.env.low;have hm0:0<m:=Nat.lt_of_le_of_lt (zLS _) hA.env.l1;refine Calls.mono ?_ (fun e w'(hx:Bf m rr o od h H 0 (Ju H) (Dk w.heap.size tg) w e w')=>hx.tags);have hA:=hA.tags;have hlow:∀w1,Low m (Dk w.heap.size tg) w1:=fun w1=>Hu kG hm0;generalize Dk w.heap.size tg=tg at hA hlow;obtain⟨⟨d,sv,lo,lc,L,ids,ps,rfl,hH,hD,s,Al,ps',rfl,hS⟩,hok,hE,hc,hb⟩:=hA;obtain⟨bs,C,l,hl,hf,hL,hs⟩:=hok.core;obtain⟨g1,g2⟩:=Mt hok hc;have hG:=ES hE.tab;refine(Q8 (Out:=fun ec Co D w3=>∃X' T' ids ps,D=S.Two.dsk T'/\Ag w3 Co o s d X' ids ps/\S.nE (H.flipped=true) T X C ec X' T') (o:=o) (od:=od) hH ⟨hE.n1,hE.n2⟩ g1 (by omega) (fun x hx=>⟨g2 x hx,pq (g2 x hx) (hok.any x.l (List.mem_map.2 ⟨x,hx,rfl⟩)).ns,(hok.any x.l (List.mem_map.2 ⟨x,hx,rfl⟩)).ns⟩) (by omega) ?_).mono ?_
 .intro w1 k;have hS1:Ag w1 tg o s d X Al ps':=hS.keep k.size k.tags (fun i hi e=>k.block i hi (by rw[e];exact fun e=>hE.n1 e.symm));have hD1:AJ w1 tg od d T.dsk ids ps:=hD.keep k.size k.tags (fun i hi e=>k.block i hi (by rw[e];exact fun e=>hE.n2 e.symm));by_cases hd:X.dead=true
  .apply(Wd hS1 hd).mono;rintro e w2⟨rfl,q⟩;exact⟨10,tg,T.dsk,ids,ps,⟨X,T,Al,ps',rfl,hS1.keep q.below.size (fun _ _=>rfl) (fun i hi _=>q.below.block i hi),Or.inl ⟨hd,rfl,rfl,rfl⟩⟩,rfl,Kept.Be q (fun _ _=>rfl),hD1.keep q.below.size (fun _ _=>rfl) (fun i hi _=>q.below.block i hi),hok.fine,fun e=>by cases e⟩
  .have hd:X.dead=false:=by simpa using hd
   (have htd:T.dead=false:=by rw[<-hs.td];exact hd);by_cases hp:X.BI=true
   .apply(Qd hS1 hd hp).mono;rintro e w2⟨rfl,q⟩;exact⟨13,tg,T.dsk,ids,ps,⟨X,T,Al,ps',rfl,hS1.keep q.below.size (fun _ _=>rfl) (fun i hi _=>q.below.block i hi),Or.inr (Or.inl ⟨hd,hp,rfl,rfl,rfl⟩)⟩,rfl,Kept.Be q (fun _ _=>rfl),hD1.keep q.below.size (fun _ _=>rfl) (fun i hi _=>q.below.block i hi),hok.fine,fun e=>by cases e⟩
   .have hp:X.BI=false:=by simpa using hp
    have again:∀(X2:S.Sto)(C2:S.Con)(bs2:List (List Rec))(T2:S.Two)(Nw:Int)(Co:Tags)(w2:World)(i1 i2 i3 i4:List Nat),(Co 0).1≠rr->H.flipped=false->¬Drops X2 C2->X2.dead=false->X2.BI=false->Rdy w2 Co o od m s d T2 X2 bs2 C2 (H.flipped=true) Nw i1 i2 i3 i4->(∀U5 W,Kept (·=rr) Co w2 U5 W->Calls Tryz.prog 55 #[pT s] W fun e W'=>e=.returned (iT 0)/\Q W W'):=by
     intro X2 C2 bs2 T2 Nw Co w2 i1 i2 i3 i4 hrg hfl hnd hd2 hp2 hR U5 W kW;have fq:=ES hR.tab;have zB4:=hR.low;obtain⟨tgV,zAk⟩:∃tgV:Tags,tgV=Dk w2.heap.size Co:=⟨_,rfl⟩;have tV:∀i,i<w2.heap.size->tgV i=Co i:=fun i hi=>by rw[zAk];exact Ce hi
     have hRW:Rdy W tgV o od m s d T2 X2 bs2 C2 (H.flipped=true) Nw i1 i2 i3 i4:=
      ⟨hR.XH.keep kW.size tV (fun i hi e=>kW.block i hi (by rw[e];exact fun e=>hE.n1 e.symm)),hR.disk.keep kW.size tV (fun i hi e=>kW.block i hi (by rw[e];exact fun e=>hE.n2 e.symm)),hR.fine,hR.on,hR.good,Cu hR.tab (kW.block _ fq hrg),by rw[tV _ fq];exact hR.FP,hR.ne,hR.nob,hR.alive,by rw[zAk];exact Hu zB4 hm0,hR.om,hR.odm,hR.few⟩
     apply(SS hRW hd2 hp2).mono;rintro e W' (⟨_,rfl,q⟩|⟨hbad,_⟩|⟨hdr,_⟩)
     .exact⟨rfl,q⟩
     .rw[hfl]at hbad;cases hbad
     .exact absurd hdr hnd
    have hrg:(tg 0).1≠rr:=fun e=>hE.FP (Or.inl e);have XL:=iW hE (hlow w1) k hS hD hok hf hs hd;apply(SS XL hd hp).mono;rintro e w2 (⟨hnd,rfl,q⟩|⟨hbad,rfl,q⟩|⟨hdr,c,AU,X',T',i1,i2,i3,i4,rfl,hK,hl',hS',hD',hF',hcc⟩)
    .exact⟨0,tg,T.dsk,ids,ps,⟨X,T,Al,ps',rfl,hS1.keep q.below.size (fun _ _=>rfl) (fun i hi _=>q.below.block i hi),Or.inr (Or.inr ⟨hd,hp,Or.inl ⟨hnd,rfl,rfl,rfl⟩⟩)⟩,rfl,Kept.Be q (fun _ _=>rfl),hD1.keep q.below.size (fun _ _=>rfl) (fun i hi _=>q.below.block i hi),hok.fine,fun _ hfl _=>⟨htd,again X C bs T l.flushed.water tg w2 _ _ _ _ hrg hfl hnd hd hp (iW hE (hlow w2) (k.trans (Kept.Be q (fun _ _=>rfl))) hS hD hok hf hs hd)⟩⟩
    .exact⟨3,tg,T.dsk,ids,ps,⟨X,T,Al,ps',rfl,hS1.keep q.below.size (fun _ _=>rfl) (fun i hi _=>q.below.block i hi),Or.inr (Or.inr ⟨hd,hp,Or.inr (Or.inl ⟨hbad,rfl,rfl,rfl⟩)⟩)⟩,rfl,Kept.Be q (fun _ _=>rfl),hD1.keep q.below.size (fun _ _=>rfl) (fun i hi _=>q.below.block i hi),hok.fine,fun e=>absurd e (by decide)⟩
    .have hG1:=ES XL.tab;rcases hcc with⟨rfl,hg⟩|hg
     .refine⟨((0:Nat):Int),AU,T'.dsk,i3,i4,⟨X',T',i1,i2,rfl,hS',Or.inr (Or.inr ⟨hd,hp,Or.inr (Or.inr ⟨hF',Or.inl ⟨rfl,hg⟩⟩)⟩)⟩,rfl,hK,hD',hF',fun _ hfl _=>?_⟩;obtain⟨bs',nw,rfl,h1,h2,h3,h4,h5,h6,h7,h8⟩:=hg;have hkp:∀nw,S.Keeps (X.laid nw) (S.Eu X C (S.needs X.wm) X.keys.length) (S.facts l.now.AB):=fun nw=>hs.keeps.compact hs.good nw;have hfo:=S.Ku (fp:=H.flipped) hs.good hs.wm hF' h1 h5 hkp;have hfw:=hfo.few hF';refine⟨h7,again (X.laid nw) _ bs' T' l.now.water AU w2 i1 i2 i3 i4 (by rw[hK.tags _ hG1];exact hrg) hfl (S.jI hs.good nw) hd (S.Jg X nw) ⟨hS',hD',hF',hfo.on h7,hs.good.laid h1 h2 (by omega),Cu XL.tab (hK.block _ hG1 (fun e=>e.elim XL.FP.1 XL.FP.2)),by rw[hK.tags _ hG1];exact XL.FP,hE.n3,h6,h7,hl',hE.l2,hE.l3,by omega⟩⟩
     .refine⟨(c:Int),AU,T'.dsk,i3,i4,⟨X',T',i1,i2,rfl,hS',Or.inr (Or.inr ⟨hd,hp,Or.inr (Or.inr ⟨hF',Or.inr ⟨c,rfl,hg⟩⟩)⟩)⟩,rfl,hK,hD',hF',fun e=>?_⟩;exfalso;rcases hg with⟨e2,_⟩|⟨e2,_⟩|⟨_,e2,_⟩<;>rw[e2]at e<;>exact absurd e (by decide)
 .rintro e w'⟨ec,Co,D,w3,AU,L',lo',IC,a,b,kk,⟨X',T',i1,i2,rfl,hS3,hout⟩,rfl,hm,dU,hkk,hD',hK,hK3⟩;obtain⟨k0,k1,k2⟩:=hok.compact (by omega) hl hf hL hs hout kk;rw[List.filterMap_map]at k1 k2;have hm2:L'.map (fun x=>x.l)=L.filterMap ((fun x=>M.Bd ec T'.dead (M.total T'.dsk.files) x)∘fun x=>x.l):=hm;rw[<-hm2]at k1 k2;rw[zM2]at k2;exact DW hE (by rw[k0,decide_eq_true k2];rfl) (Turn.Ed hK) (fun x e=>by rcases e with e|e|e<;>simp[Mine,e]) ⟨d,_,lo',IC,L',a,b,rfl,dU,hD',En (hS3.keep hK3.size hK3.tags (fun i hi e=>hK3.block i hi (by rw[e];exact fun e=>hE.n1 e.symm)))⟩ k1 (by simp only;omega) (by simp) ⟨rfl,rfl,rfl⟩
namespace S
def again(ls:List M.Lif):List M.Lif:=(ls.map M.Lif.again).flatten
theorem mR(h:y∈again ls):∃x∈ls,y=⟨x.flushed,x.flushed,false,false,false⟩\/(x.late=true/\y=⟨x.now,x.now,false,false,false⟩):=by
 unfold again at h;obtain⟨l,hl,hy⟩:=List.mem_flatten.1 h;obtain⟨x,hx,rfl⟩:=List.mem_map.1 hl;refine⟨x,hx,?_⟩;unfold M.Lif.again at hy;rcases zME.1 hy with e|e
 .exact Or.inl e
 .cases hl2:x.late with
  |false=>rw[hl2]at e;simp at e
  |true=>rw[hl2]at e;simp at e;exact Or.inr ⟨rfl,e⟩
theorem su(h:l∈ls):(⟨l.flushed,l.flushed,false,false,false⟩:M.Lif)∈again ls:=
 List.mem_flatten.2 ⟨l.again,List.mem_map.2 ⟨l,h,rfl⟩,by unfold M.Lif.again;exact List.mem_cons_self ..⟩
theorem MR:∀ls:List M.Lif,(again ls).length<=2*ls.length/\((∀x∈ls,x.late=false)->(again ls).length=ls.length)
 |[]=>⟨by simp[again],fun _=>by simp[again]⟩
 |x::ls=>by
  obtain⟨h1,h2⟩:=MR ls;have e:again (x::ls)=x.again++again ls:=by simp[again]
  rw[e,zLL,zLQ];unfold M.Lif.again;constructor
  .split
   .simp;omega
   .simp;omega
  .intro hn;rw[h2 (fun y hy=>hn y (List.mem_cons_of_mem _ hy)),hn x (List.mem_cons_self ..)];simp;omega
theorem JQ.back(h:JQ H l)(hc:H.calls<=H'.calls)(hb:H.bytes<=H'.bytes):JQ H' ⟨l.flushed,l.flushed,false,false,false⟩:=by
 obtain⟨more,e⟩:=h.pre;have h1:=h.QO;have h2:=h.len;have hv:=h.AB;rw[e]at hv h2;rw[zLL]at h2;exact⟨hv.zDH,⟨[],by simp⟩,fun _=>rfl,by simp only;omega,by simp only;omega⟩
theorem Ff.again{H H':M.Hou}{T:Two}{X:Option Sto}{ls:List M.Lif}(h:Ff H T X ls)(e1:H'.cap=H.cap)(e2:H'.armed=H.armed)(e3:H'.flipped=H.flipped)(hc:H.calls<=H'.calls)(hb:H.bytes<=H'.bytes)(hq:H'.quiet=true->H.quiet=true):Ff H' T none (S.again ls):=by
 obtain⟨g1,g2⟩:=MR ls;have hmem:=fun y(hy:y∈S.again ls)=>mR hy;refine⟨h.cap.trans e1.symm,h.fine,fun e=>h.arm (by rw[<-e2];exact e),fun y hy=>?_,?_,fun e=>?_,fun y hy e=>?_,fun e=>h.quiet (hq e),fun _ y hy=>?_,fun e=>absurd rfl e,?_⟩
 .obtain⟨x,hx,e⟩:=hmem y hy;have ha:=h.any x hx;have a1:=ha.fl;have a2:=ha.nl;rcases e with rfl|⟨_,rfl⟩
  .exact⟨by simp only;omega,by simp only;omega,ha.fs,ha.fs⟩
  .exact⟨by simp only;omega,by simp only;omega,ha.ns,ha.ns⟩
 .by_cases hl:∃x∈ls,x.late=true
  .have:=h.RF (Or.inr hl);omega
  .rw[g2 (fun x hx=>by cases e:x.late with|false=>rfl|true=>exact absurd ⟨x,hx,e⟩ hl)];exact h.few
 .rcases e with e|⟨y,hy,e⟩
  .have h16:=h.RF (Or.inl e);rw[g2 (fun x hx=>by
    cases e2:x.late with
    |false=>rfl
    |true=>have:=h.late x hx e2;rw[e.2]at this;cases this)]
   exact h16
  .obtain⟨x,hx,e2⟩:=hmem y hy;rcases e2 with rfl|⟨_,rfl⟩<;>cases e
 .obtain⟨x,hx,e2⟩:=hmem y hy;rcases e2 with rfl|⟨_,rfl⟩<;>cases e
 .obtain⟨x,hx,e2⟩:=hmem y hy;rcases e2 with rfl|⟨_,rfl⟩<;>exact⟨rfl,rfl⟩
 .obtain⟨bs,C,l,hl,hf,hL,_⟩:=h.core;exact⟨bs,C,_,su hl,by rw[e3];exact hf,hL.back hc hb,rfl,rfl,rfl⟩
theorem Ff.disk{T T':Two}(h:Ff H T none ls)(e0:T'.cap=T.cap)(ea:T'.a=T.a)(hF:T'.dsk.BS)(e1:H'.cap=H.cap)(e3:H'.flipped=H.flipped)(hc:H.calls<=H'.calls)(hb:H.bytes<=H'.bytes)(harm:H'.armed=false->T'.Ae=0/\T'.dead=false)(Ef:T'.Ae≠0/\T'.dead=false->ls.length<=16)(hq:H'.quiet=true->T'.dead=false/\T'.b=none):Ff H' T' none ls:=by
 have hcl:=h.closed rfl;have hno:∀x∈ls,x.late=true->False:=fun x hx e=>by rw[(hcl x hx).2]at e;cases e
 refine⟨by rw[e0,e1];exact h.cap,hF,harm,fun x hx=>(h.any x hx).more hc,h.few,fun e=>?_,fun x hx e=>(hno x hx e).elim,hq,fun _=>hcl,fun e=>absurd rfl e,?_⟩
 .rcases e with e|⟨x,hx,e⟩
  .exact Ef e
  .exact(hno x hx e).elim
 .obtain⟨bs,C,l,hl,hf,hL,hz⟩:=h.core;exact⟨bs,C,l,hl,by rw[e3];exact hf.same ea,hL.more hc hb,hz⟩
theorem Ff.synced{T:Two}{X:Option Sto}(h:Ff H T X ls):made T.a=T.a:=by
 obtain⟨bs,C,l,hl,hf,_⟩:=h.core;rcases hf.lies with⟨e,_⟩|⟨t,e,_⟩
 .rw[e];rfl
 .rw[e];rfl
theorem UR{T:Two}(hd:T.dead=false)(hf:T.Ae=0)(ha:made T.a=T.a):M.FE T.dsk T.dsk.files.length=({ T with b:=made T.b }:Two).dsk:=by
 unfold M.FE;rw[zM0];obtain⟨c,a,b,de,fu⟩:=T;simp only at hd hf ha;subst hd hf
 cases a with
 |none=>cases b<;>rfl
 |some x =>
  obtain⟨x,n⟩:=x;simp only[made,zM1,zLO,Prod.mk.injEq,true_and]at ha;subst ha
  cases b<;>rfl
theorem aP{T:Two}(hd:T.dead=false)(ha:made T.a=T.a):(T.Hf.2=10/\T.Hf.1.cap=T.cap/\T.Hf.1.a=T.a/\T.Hf.1.dead=true/\T.Ae≠0)\/((T.Hf.2=0\/T.Hf.2=7)/\T.Hf.1.cap=T.cap/\T.Hf.1.a=T.a/\T.Hf.1.dead=false/\(T.Ae=0->T.Hf.1.Ae=0)):=by
 obtain⟨g1,g2,g3⟩:=Two.C9 T;unfold Two.Hf Two.change;rw[if_neg (by rw[hd];simp)]
 cases hs:T.a.isSome with
 |false=>exact Or.inr ⟨Or.inr rfl,rfl,rfl,hd,id⟩
 |true =>
  rw[if_neg (by simp)];rcases Two.GV hd with⟨h2,h3⟩|⟨h2,h3⟩
  .rw[if_pos h2];exact Or.inl ⟨rfl,g1,g2,h3,(Two.Dq hd).1 h2⟩
  .rw[if_neg (by rw[h2];simp)];exact Or.inr ⟨Or.inl rfl,g1,ha,h3,(Two.Dq hd).2⟩
theorem lU{T:Two}(hd:T.dead=false):(T.drop.2=10/\T.drop.1.cap=T.cap/\T.drop.1.a=T.a/\T.drop.1.dead=true/\T.Ae≠0)\/((T.drop.2=0\/T.drop.2=7)/\T.drop.1.cap=T.cap/\T.drop.1.a=T.a/\T.drop.1.b=none/\T.drop.1.dead=false/\(T.Ae=0->T.drop.1.Ae=0)):=by
 obtain⟨g1,g2,g3⟩:=Two.C9 T;unfold Two.drop Two.change;rw[if_neg (by rw[hd];simp)]
 cases hs:T.b with
 |none=>exact Or.inr ⟨Or.inr rfl,rfl,rfl,hs,hd,id⟩
 |some x =>
  rw[if_neg (by simp)];rcases Two.GV hd with⟨h2,h3⟩|⟨h2,h3⟩
  .rw[if_pos h2];exact Or.inl ⟨rfl,g1,g2,h3,(Two.Dq hd).1 h2⟩
  .rw[if_neg (by rw[h2];simp)];exact Or.inr ⟨Or.inl rfl,g1,g2,rfl,h3,(Two.Dq hd).2⟩
theorem O1{T:Two}(hd:T.dead=false)(ha:made T.a=T.a):(∃T':Two,S.settle T.dsk=(T'.dsk,10)/\T'.cap=T.cap/\T'.a=T.a/\T'.dead=true/\T.Ae≠0)\/(∃T':Two,S.settle T.dsk=(T'.dsk,0)/\T'.cap=T.cap/\T'.a=T.a/\T'.b=none/\T'.dead=false/\(T.Ae=0->T'.Ae=0)):=by
 rw[aY];have t7:S.A8 7=0:=rfl;have t10:S.A8 10=10:=rfl;have t0:S.A8 0=0:=rfl;rcases aP hd ha with⟨h1,h2,h3,h4,h5⟩|⟨h1,h2,h3,h4,h5⟩
 .rw[h1,t10,if_neg (by decide)];exact Or.inl ⟨_,rfl,h2,h3,h4,h5⟩
 .have hz:S.A8 T.Hf.2=0:=by rcases h1 with e|e<;>rw[e]<;>assumption
  rw[hz,if_pos rfl];rcases lU h4 with⟨k1,k2,k3,k4,k5⟩|⟨k1,k2,k3,k4,k5,k6⟩
  .rw[k1,t10];exact Or.inl ⟨_,rfl,k2.trans h2,k3.trans h3,k4,fun e=>k5 (h5 e)⟩
  .have hz2:S.A8 T.Hf.1.drop.2=0:=by rcases k1 with e|e<;>rw[e]<;>assumption
   rw[hz2];exact Or.inr ⟨_,rfl,k2.trans h2,k3.trans h3,k4,k5,fun e=>k6 (h5 e)⟩
theorem wR{T:Two}{C:Con}(hf:E9 H.flipped T bs C l.flushed)(hF:T.dsk.BS)(hL:JQ H l)(hz:l.dead=false/\l.late=false/\l.pending=false)(hd:T.dead=false)(hb:T.b=none):NP T (ET l.flushed.water bs.flatten bs.flatten.length) bs C l:=by
 have Ef:=hf.few hF;have hidle:=hL.idle hz.2.2;have hcon:(ET l.flushed.water bs.flatten bs.flatten.length).con C=C:=by
  funext k;unfold Sto.con;rfl
 refine⟨⟨ZW hf.fil.ord (by omega) (zLK _),hf.fil,fun k=>?_,fun kr hkr=>(by cases hkr),fun kr hkr=>(by cases hkr),hf.w1,Int.le_refl _,hf.w2⟩,?_,rfl,hz.1.symm,?_,fun k=>?_,hd.symm,fun _=>hb⟩
 .have h1:=(OM hf.fil.ord bs.flatten.length (zLK _)).2.2 k;show BX (news (bs.flatten.take bs.flatten.length)) k=_
  rw[h1,zM0,<-List.head?_map,<-List.head?_map,(hf.fil.holds k).tells.stamps]
 .rw[hidle];rfl
 .rw[hz.2.2];unfold Sto.BI ET;simp
 .obtain⟨n,g1,g2⟩:=hf.keeps k;refine⟨n,by rw[hcon,hidle];exact g1,?_⟩;rw[hidle];exact g2
theorem Ff.opened{T T':Two}(h:Ff H T none ls){C:Con}(hl:l∈ls)(hf:E9 H.flipped T bs C l.flushed)(hL:JQ H l)(hz:l.dead=false/\l.late=false/\l.pending=false)(hT:T.dead=false)(e0:T'.cap=T.cap)(ea:T'.a=T.a)(hF:T'.dsk.BS)(hd:T'.dead=false)(hb:T'.b=none)(hfu:T.Ae=0->T'.Ae=0)(e1:H'.cap=H.cap)(e2:H'.armed=H.armed)(e3:H'.flipped=H.flipped)(hc:H.calls<=H'.calls)(hbb:H.bytes<=H'.bytes):Ff H' T' (some (ET l.flushed.water bs.flatten bs.flatten.length)) ls:=by
 have hcl:=h.closed rfl;have hno:∀x∈ls,x.late=true->False:=fun x hx e=>by rw[(hcl x hx).2]at e;cases e
 have hf':E9 H'.flipped T' bs C l.flushed:=by rw[e3];exact hf.same ea
 refine⟨by rw[e0,e1];exact h.cap,hF,fun e=>⟨hfu (h.arm (by rw[<-e2];exact e)).1,hd⟩,fun x hx=>(h.any x hx).more hc,h.few,fun e=>?_,fun x hx e=>(hno x hx e).elim,fun _=>⟨hd,hb⟩,fun e=>(by cases e),fun _ e=>(by rw[hd]at e;cases e),⟨bs,C,l,hl,hf',hL.more hc hbb,wR hf' hF (hL.more hc hbb) hz hd hb⟩⟩;rcases e with e|⟨x,hx,e⟩
 .exact h.RF (Or.inl ⟨fun e4=>e.1 (hfu e4),hT⟩)
 .exact(hno x hx e).elim
theorem Ff.armed{H:M.Hou}{T T':Two}{X:Option Sto}{ls:List M.Lif}(h:Ff H T X ls)(hlen:ls.length<=16)(hT:T'={ T with Ae:=T'.Ae })(hF:T'.dsk.BS):Ff { H with armed:=true } T' X ls:=by
 have a1:T'.cap=T.cap:=by rw[hT]
 have a2:T'.a=T.a:=by rw[hT]
 have a3:T'.b=T.b:=by rw[hT]
 have a4:T'.dead=T.dead:=by rw[hT]
 refine⟨a1.trans h.cap,hF,fun e=>(by cases e),fun x hx=>(h.any x hx).more (zLK _),h.few,fun _=>hlen,fun x hx e=>by rw[a4];exact h.late x hx e,fun e=>by rw[a4,a3];exact h.quiet e,h.closed,fun e1 e2=>h.gone e1 (by rw[<-a4];exact e2),?_⟩;obtain⟨bs,C,l,hl,hf,hL,hs⟩:=h.core;refine⟨bs,C,l,hl,hf.same a2,hL.more (zLK _) (zLK _),?_⟩
 cases X with
 |none=>exact hs
 |some X=>exact⟨hs.good,hs.wm,hs.fl,hs.dead,hs.pend,hs.keeps,by rw[a4];exact hs.td,by rw[a4,a3];exact hs.b⟩
theorem Ff.flip{T:Two}{X:Option Sto}(h:Ff H T X ls)(hfp:H.flipped=false)(ha:T.a=some (t,n)){x:UInt8}(hi:i<t.length)(hx:x≠t[i])(hF:({ T with a:=some (t.set i x,n)}:Two).dsk.BS):Ff { H with flipped:=true } { T with a:=some (t.set i x,n)} X ls:=by
 refine⟨h.cap,hF,h.arm,fun y hy=>(h.any y hy).more (zLK _),h.few,h.RF,h.late,h.quiet,h.closed,h.gone,?_⟩;obtain⟨bs,C,l,hl,hf,hL,hs⟩:=h.core;have hlies:Jz true { T with a:=some (t.set i x,n)} bs l.flushed.water:=by
  have hlen:=hf.lies.len h.fine;rcases hf.lies with⟨e,_⟩|⟨t',e,e2,e3,e4⟩
  .rw[ha]at e;cases e
  .rw[ha]at e;injection e with e;injection e with e5 e6;subst e5;have e7:=e4 hfp;have hs2:(Aa bs l.flushed.water).length<=1048576:=by
    rcases hlen with⟨_,_,e8⟩|⟨_,e8⟩
    .rw[ha]at e8;cases e8
    .exact e8
   refine Or.inr ⟨t.set i x,?_,by rw[List.length_set];exact e2,?_,fun e=>by cases e⟩
   .simp only[List.length_set];rw[e6]
   .subst e7;have:=aO hf.fil.ok hf.w1 hf.w2 hs2 hi hx;rw[show(true=true)=True from by simp];exact this
 refine⟨bs,C,l,hl,⟨hlies,hf.fil,hf.w1,hf.w2,hf.keeps⟩,hL.more (zLK _) (zLK _),?_⟩
 cases X with
 |none=>exact hs
 |some X=>exact⟨hs.good,hs.wm,hs.fl,hs.dead,hs.pend,hs.keeps,hs.td,hs.b⟩
end S
def fO(n:Nat)(tg Co:Tags)(rr o od ox:Nat):Tags:=fun k=>if k<n/\¬Mine rr o od (tg k).1 then tg k else if(Co k).1=rr then Co k else if(Co k).1=ox then(od,(Co k).2)else(0,0)
theorem Sy{Co:Tags}{ox:Nat}{D:M.Dsk}{i:List Nat}(hE:vJ w tg m rr o od)(hox:ox=od\/ox=m)(k:Kept P tg w Co w3)(hP:∀x,P x->Mine rr o od x\/x=m)(hH:A7 w3 Co rr h dv sv lo lc L H)(hD:AJ w3 Co ox d' D i j):
  A7 w3 (fO w.heap.size tg Co rr o od ox) rr h dv sv lo lc L H/\AJ w3 (fO w.heap.size tg Co rr o od ox) od d' D i j/\(∀x,x<w3.heap.size->(fO w.heap.size tg Co rr o od ox x).1≠o)/\Low m (fO w.heap.size tg Co rr o od ox) w3/\Tab w3/\Turn (Mine rr o od) tg w (fO w.heap.size tg Co rr o od ox) w3:=by
 have hG:=ES hE.tab;have hlt:∀x,x<w.heap.size->¬Mine rr o od (tg x).1->¬P (tg x).1:=fun x hx hm hp=>by
  rcases hP _ hp with e|e
  .exact hm e
  .have:=hE.low x hx;omega
 have hn:=hE.n1;have hn2:=hE.n2;have hn3:=hE.n3;have hp:=hE.p;have hl1:=hE.l1;have hl3:=hE.l3;refine⟨hH.retag (fun x hx e=>?_),hD.owner (fun x hx e=>?_),fun x hx=>?_,fun x hx=>?_,Cu hE.tab (k.block _ hG (hlt _ hG hE.FP)),⟨k.os,k.tape,k.output,k.size,fun x hx hm=>?_,fun x hx hm=>k.block x hx (hlt x hx hm)⟩⟩
 .unfold fO;rw[if_neg (fun e2=>e2.2 (by rw[<-k.tags x e2.1,e];exact Or.inl rfl)),if_pos e]
 .unfold fO;rw[if_neg (fun e2=>by
   (have e3:(tg x).1=ox:=by rw[<-k.tags x e2.1];exact e);rcases hox with e4|e4
   .exact e2.2 (Or.inr (Or.inr (e3.trans e4)))
   .have:=hE.low x e2.1;omega),if_neg (by omega),if_pos e]
 .unfold fO;split
  .rename_i e;exact fun e2=>e.2 (Or.inr (Or.inl e2))
  split
  .rename_i e;rw[e];exact hn
  split
  .exact fun e=>hn3 e.symm
  .exact fun e=>hp.2.1 e.symm
 .unfold fO;split
  .rename_i e;exact hE.low x e.1
  split
  .rename_i e;rw[e];exact hl1
  split
  .exact hl3
  .show 0<m;omega
 .unfold fO;rw[if_pos ⟨hx,hm⟩]
def zIF(H:M.Hou)(rr o od:Nat)(tg:Tags)(w:World)(sv:Value)(ec:Int)(Em:Tags)(D4:M.Dsk)(d':Nat)(L':List LV)(w4:World):Prop:=
 ∃(T4:S.Two)(X4:Option S.Sto),D4=T4.dsk/\S.Ff { H with calls:=H.calls+1,quiet:=decide (ec=0)} T4 X4 (L'.map fun x=>x.l)/\Hq w4 Em o d' sv X4/\Turn (Mine rr o od) tg w Em w4/\(H.armed=false->H.flipped=false->X4.isSome=true)
theorem Vg{XG:Tags}{L':List LV}{T2:S.Two}{i:List Nat}(hE:vJ w tg m rr o od)(hH:A7 w3 XG rr h (pT d') (.pointer none) lo lc L' { H with calls:=H.calls+1 })(hD:AJ w3 XG od d' T2.dsk i j)(ho:∀x,x<w3.heap.size->(XG x).1≠o)(hlow:Low m XG w3)(hT:Tab w3)(hTn:Turn (Mine rr o od) tg w XG w3)(hok:S.Ff { H with calls:=H.calls+1 } T2 none (L'.map fun x=>x.l))(hd:T2.dead=false):
  Calls Tryz.prog 20 #[pT d'] w3 fun e w4=>∃sv ec Em D4 i j,e=.returned (.tuple #[sv,iT ec])/\zHi H.flipped false sv ec D4/\D4.BS/\A7 w4 Em rr h (pT d') (.pointer none) lo lc L' { H with calls:=H.calls+1 }/\AJ w4 Em od d' D4 i j/\zIF H rr o od tg w sv ec Em D4 d' L' w4:=by
 obtain⟨bs,C,l,hl,hf,hL,hz⟩:=hok.core;have Ef:=hf.few hok.fine;apply(pE (o:=o) (od:=od) (m:=m) (T0:=T2) (bs:=bs) (C:=C) (bad:=H.flipped=true) (wm:=l.flushed.water) hD hok.fine (hf.on hd) hf.fil hT (by omega) hlow ho hE.l2 hE.l3).mono;rintro e w4⟨Em,i4,j4,hK4,hl4,hcase⟩;have hH4:=hH.keep hK4 (fun e=>hE.n2 e);have kV:Turn (Mine rr o od) tg w Em w4:=hTn.trans ((Turn.Ed hK4).wider (fun x e=>Or.inr (Or.inr e)));have harm:=hok.arm;have hfn:=Xe hok.fine;rcases hcase with⟨hbad,rfl,hD4⟩|⟨hs,rfl,hD4⟩|⟨hs,s,hs1,rfl,Db,hD4⟩
 .refine⟨_,_,Em,_,i4,j4,rfl,Or.inr (Or.inr ⟨rfl,hd,rfl,rfl,hbad⟩),hok.fine,hH4,hD4,T2,none,rfl,?_,rfl,kV,fun _ e=>by rw[hbad]at e;cases e⟩;exact hok.disk rfl rfl hok.fine rfl rfl (zLK _) (zLK _) hok.arm (fun e=>hok.RF (Or.inl e)) (fun e=>by simp at e)
 .rcases S.O1 hd hok.synced with⟨T',g0,g1,g2,g3,g4⟩|⟨T',g0,_⟩
  .rw[g0]at hs hD4 hfn⊢;refine⟨_,_,Em,_,i4,j4,rfl,Or.inr (Or.inl ⟨rfl,g3,rfl⟩),hfn,hH4,hD4,T',none,rfl,?_,rfl,kV,fun e=>absurd (harm e).1 g4⟩;exact hok.disk g1 g2 hfn rfl rfl (zLK _) (zLK _) (fun e=>absurd (harm e).1 g4) (fun e=>(by rw[g3]at e;cases e.2)) (fun e=>by simp at e)
  .rw[g0]at hs;exact absurd rfl hs
 .rcases S.O1 hd hok.synced with⟨T',g0,_⟩|⟨T',g0,g1,g2,g3,g4,g5⟩
  .rw[g0]at hs
   cases hs
  .rw[g0]at hD4 hfn;refine⟨_,_,Em,_,i4,j4,rfl,Or.inl ⟨rfl,g4,rfl,s,rfl⟩,hfn,hH4,hD4,T',some _,rfl,?_,⟨s,[],[],rfl,Db⟩,kV,fun _ _=>rfl⟩;exact hok.opened hl hf hL hz hd g1 g2 hfn g4 g3 g5 rfl rfl rfl (zLK _) (zLK _)
theorem iE{X:Option S.Sto}(hA:GJ w tg m rr o od h H T X ls):
  Calls Tryz.prog 12 #[pT h] w fun e w'=>Bf m rr o od h H 0 (Opens H) tg w e w':=by
 obtain⟨⟨d,sv,lo,lc,L,ids,ps,rfl,hH,hD,hS⟩,hok,hE,hc,hb⟩:=hA;obtain⟨g1,g2⟩:=Mt hok hc;have l1:=hE.l1;have l3:=hE.l3;have hok1:S.Ff { H with calls:=H.calls+1 } T none (S.again (L.map fun x=>x.l)):=hok.again rfl rfl rfl (by simp) (zLK _) id;refine(WB (Fin:=fun sv ec Em D4 d' L' w4=>zIF H rr o od tg w sv ec Em D4 d' L' w4) (Gx:=m) hH hD hok.fine hok.cap.symm ⟨hE.n2,by omega,by omega⟩ g1 (by omega) (by omega) ?_).mono ?_
 .intro w3 Co d' L' lo' IC hAt;have hmap:L'.map (fun x=>x.l)=S.again (L.map fun x=>x.l):=hAt.map;rw[<-hmap]at hok1;rcases hAt.disk with⟨hnc,⟨i,j,hD3⟩,hK3⟩|⟨hd,harm,⟨i,j,hD3⟩,hK3⟩
  .obtain⟨f1,f2,f3,f4,f5,f6⟩:=Sy (ox:=od) hE (Or.inl rfl) hK3 (fun x e=>Or.inl (Or.inl e)) hAt.hou hD3;by_cases hd:T.dead=true
   .apply(jE f2 hok.fine hd f5).mono;rintro e w4⟨rfl,q⟩;have hK4:Kept (fun _=>False) (fO w.heap.size tg Co rr o od od) w3 (fO w.heap.size tg Co rr o od od) w4:=Kept.Be q (fun _ _=>rfl);refine⟨_,_,_,T.dsk,i,j,rfl,Or.inr (Or.inl ⟨rfl,hd,rfl⟩),hok.fine,f1.keep hK4 (fun e=>e),f2.keep hK4.size hK4.tags (fun x hx _=>hK4.block x hx (fun e=>e)),T,none,rfl,?_,rfl,f6.trans ((Turn.Ed hK4).wider (fun x e=>e.elim)),fun e=>by have:=(hok.arm e).2;rw[hd]at this;cases this⟩;exact hok1.disk rfl rfl hok.fine rfl rfl (zLK _) (zLK _) hok.arm (fun e=>hok1.RF (Or.inl e)) (fun e=>by simp at e)
   ·(have hd:T.dead=false:=by simpa using hd);have he:T.dsk.dead=false:=hd;rw[he];exact Vg hE f1 f2 f3 f4 f5 f6 hok1 hd
  .have hd':T.dead=false:=hd;have hfu:=(hok.arm harm).1;rw[S.UR hd' hfu hok.synced]at hD3;obtain⟨f1,f2,f3,f4,f5,f6⟩:=Sy (ox:=m) hE (Or.inr rfl) hK3 (fun x e=>e.elim (fun e=>Or.inl (Or.inl e)) Or.inr) hAt.hou hD3;have hfn:({ T with b:=S.made T.b }:S.Two).dsk.BS:=by
    have:=M.IY hok.fine T.dsk.files.length (zLK _);rw[S.UR hd' hfu hok.synced]at this;exact this
   have hok2:S.Ff { H with calls:=H.calls+1 } { T with b:=S.made T.b } none (L'.map fun x=>x.l):=hok1.disk rfl rfl hfn rfl rfl (zLK _) (zLK _) (fun e=>hok.arm e) (fun e=>hok1.RF (Or.inl e)) (fun e=>by
    obtain⟨e1,e2⟩:=hok.quiet e;exact⟨e1,by show S.made T.b=none;rw[e2];rfl⟩)
   rw[hd];exact Vg hE f1 f2 f3 f4 f5 f6 hok2 hd'
 .rintro e w'⟨Y7,ec,Em,D4,w4,d',L',lo',IC,i,j,rfl,⟨T4,X4,rfl,zEd,Db,kV,hop⟩,dU,hD',hK'⟩;exact DW hE rfl (kV.trans ((Turn.Ed hK').wider (fun x e=>Or.inl e))) (fun x e=>e) ⟨d',Y7,lo',IC,L',i,j,rfl,dU,hD',Db.keep hK'.size hK'.tags (fun x hx e=>hK'.block x hx (by rw[e];exact fun e=>hE.n1 e.symm))⟩ zEd (by simp) (by simp) ⟨rfl,rfl,hop⟩
theorem Di.q{w w':World}{tg:Tags}{rr o od h:Nat}{H:M.Hou}{T:S.Two}{X:Option S.Sto}{ls:List M.Lif}(hh:Di w tg rr o od h H T X ls)(q:Q w w')(AU:Tags)(ht:∀k,k<w.heap.size->AU k=tg k):Di w' AU rr o od h H T X ls:=
 hh.turn (P:=fun _=>False) (Turn.Ed (Kept.Be q ht)) (fun e=>e) (fun e=>e) (fun e=>e)
theorem GJ.q{w w1:World}{tg:Tags}{m rr o od h:Nat}{H:M.Hou}{T:S.Two}{X:Option S.Sto}{ls:List M.Lif}(hA:GJ w tg m rr o od h H T X ls)(q:Q w w1):GJ w1 (Dk w.heap.size tg) m rr o od h H T X ls:=by
 have hE:=hA.env;have l1:=hE.l1;exact⟨hA.at_.q q _ (fun k hk=>Ce hk),hA.ok,⟨CJ hE.tab q,by rw[Ce (ES hE.tab)];exact hE.FP,Hu hE.low (by omega),hE.n1,hE.n2,hE.n3,hE.l1,hE.l2,hE.l3,hE.p⟩,hA.calls,hA.bytes⟩
theorem Bf.q{w w1 w':World}{tg:Tags}{m rr o od h more:Nat}{H:M.Hou}{e:Ending}{R:M.Hou->Option S.Sto->Prop}(q:Q w w1)(hA:Bf m rr o od h H more R (Dk w.heap.size tg) w1 e w'):Bf m rr o od h H more R tg w e w':=by
 obtain⟨he,AU,H',T',X',ls',g1,g2,g3,g4⟩:=hA;exact⟨he,AU,H',T',X',ls',g1,g2,(Turn.Ed (Kept.Be q (fun k hk=>Ce hk))).trans g3,g4⟩
theorem VG{more:Nat}{X:Option S.Sto}(hA:GJ w tg m rr o od h H T X ls)(q:Q w w')(hR:R H X):Bf m rr o od h H more R tg w (.returned (.bool true)) w':=
 DW (P:=fun _=>False) hA.env rfl (Turn.Ed (Kept.Be q (fun _ _=>rfl))) (fun x e=>e.elim) (hA.at_.q q tg (fun _ _=>rfl)) hA.ok (by omega) (by omega) hR
theorem zA4(x:UInt8)(h1:1<=m)(h2:m<=255):x ^^^ UInt8.ofNat m≠x:=by
 intro e;have e2:x ^^^ (x ^^^ UInt8.ofNat m)=x ^^^ x:=congrArg (x ^^^ ·) e;rw[<-UInt8.xor_assoc,UInt8.xor_self,UInt8.zero_xor]at e2;have e3:=congrArg UInt8.toNat e2;rw[UInt8.toNat_ofNat']at e3;simp at e3;omega
theorem rM(hb:T.b=none)(ha:T.a=some (t,n)){mk:Nat}(hi:i<t.length)(hm:mk<=255):T.dsk.flip Bw (i:Int) (mk:Int)=(({ T with a:=some (t.set i (t.getD i 0 ^^^ UInt8.ofNat mk),n)}:S.Two).dsk,0):=by
 unfold M.Dsk.flip;have e1:T.dsk.files=[⟨Bw,t,n⟩]:=by unfold S.Two.dsk;rw[ha,hb];rfl
 have e2:M.place T.dsk.files Bw=some 0:=by
  have e:M.place T.dsk.files Bw=T.a.map fun _=>0:=S.Xq T.a T.b;rw[e,ha];rfl
 rw[e2];simp only;rw[e1];simp only[zLY];rw[if_neg (by omega)];simp[S.Two.dsk,S.fileOf,hb]
theorem iG{X:Option S.Sto}(hA:GJ w tg m rr o od h H T X ls)(p:SOp)(ko:Option Addr)(kc:Nat)(ha:I64 p.a)(hb:I64 p.b)(hs:I64 p.stamp):
  Calls Tryz.prog 17 #[pT h,.agg (p.cells ko kc)] w fun e w'=>Bf m rr o od h H 0 (fun _ _=>True) tg w e w':=by
 have Tx:=hA;obtain⟨⟨d,sv,lo,lc,L,ids,ps,rfl,hH,hD,hS⟩,hok,hE,hc,hbb⟩:=hA;by_cases hno:H.flipped=true\/H.quiet=false
 .apply(Tq hH p ko kc hno).mono;rintro e w'⟨rfl,q⟩;exact VG Tx q trivial
 .have hfp:H.flipped=false:=by cases e:H.flipped with|false=>rfl|true=>exact absurd (Or.inl e) hno
  have hq:H.quiet=true:=by cases e:H.quiet with|true=>rfl|false=>exact absurd (Or.inr e) hno
  obtain⟨hd,hb0⟩:=hok.quiet hq
  cases jy:T.a with
  |none =>
   have hz:T.dsk.names=[]:=by
    unfold M.Dsk.names;rw[show T.dsk.dead=false from hd,if_neg (by simp)];unfold S.Two.dsk;rw[jy,hb0];rfl
   apply(QG hH hD hok.fine p ko kc hfp hq hz).mono;rintro e w'⟨rfl,q⟩;exact VG Tx q trivial
  |some x =>
   obtain⟨t,n⟩:=x;have hpos:0<t.length:=by
    obtain⟨bs,C,l,hl,hf,_⟩:=hok.core;rcases hf.lies with⟨e,_⟩|⟨t',e,e2,_⟩
    .rw[jy]at e;cases e
    .rw[jy]at e;injection e with e;injection e with e5 e6;subst e5;rw[e2];unfold S.Aa S.Eh;rw[zLL,zLL,M.Ar];omega
   have hi:=D9 p.b hpos;have hk:=D9 p.stamp (n:=255) (by omega);have hfl:=rM (mk:=1+DX p.stamp 255) hb0 jy hi (by omega);have hfn:=hok.fine.flip Bw ((DX p.b t.length:Nat):Int) ((1+DX p.stamp 255:Nat):Int);rw[hfl]at hfn;have hfs:T.dsk.files=[⟨Bw,t,n⟩]:=by unfold S.Two.dsk;rw[jy,hb0];rfl
   have hne:(⟨Bw,t,n⟩:M.Fil).bytes≠[]:=fun e=>by
    simp only at e;rw[e]at hpos
    cases hpos
   refine(Q7 (D':=({ T with a:=some (t.set (DX p.b t.length) (t.getD (DX p.b t.length) 0 ^^^ UInt8.ofNat (1+DX p.stamp 255)),n)}:S.Two).dsk) hH hD hok.fine p ko kc hfp hq hd hfs hne ha hb hs hE.n2 (by
    rw[<-hfl];simp only;congr 1)).mono ?_
   rintro e w'⟨rfl,AU,dU,hD',hK'⟩;have hx:t.getD (DX p.b t.length) 0 ^^^ UInt8.ofNat (1+DX p.stamp 255)≠t[DX p.b t.length]:=by
    rw[List.getD_eq_getElem?_getD,zLH hi];exact zA4 _ (by omega) (by omega)
   have hok':=hok.flip hfp jy hi hx hfn;exact DW hE rfl (Turn.Ed hK') (fun x e=>by rcases e with e|e<;>simp[Mine,e]) ⟨d,sv,lo,lc,L,ids,ps,rfl,dU,hD',hS.keep hK'.size hK'.tags (fun k hk e=>hK'.block k hk (by rw[e];rintro(e|e);exact hE.n1 e.symm;exact hE.n3 e))⟩ hok' (by simp) (by simp) trivial
structure KZ(p:SOp):Prop where
 dk:I64 p.dk
 stamp:I64 p.stamp
 a:I64 p.a
 b:I64 p.b
 key:p.key.size<=1048576
 value:p.value.size<=1048576
theorem Bf.more{e:Ending}(hA:Bf m rr o od h H n R tg w e w')(hn:n<=k):Bf m rr o od h H k R tg w e w':=by
 obtain⟨he,AU,H',T',X',ls',g1,g2,g3,g4,g5,g6,g7⟩:=hA;exact⟨he,AU,H',T',X',ls',g1,g2,g3,g4,g5,by omega,g7⟩
theorem pI(hA:GJ w tg m rr o od h H T (some X) ls)(p:SOp)(ko:Option Addr)(kc:Nat)(hp:KZ p)(hk:3<=p.kind/\p.kind<=8):
  Calls Tryz.prog 18 #[pT h,.agg (p.cells ko kc)] w fun e w'=>Bf m rr o od h H (p.key.size+p.value.size) (Ju H) tg w e w':=by
 have q0:Q w (w.alloc (.cells (p.cells ko kc) 32)):=(Q.refl w).alloc _ _;have hA1:=hA.q q0;have hkey:=hp.key;have hval:=hp.value;have HW:Hid (∀e w',Bf m rr o od h H (p.key.size+p.value.size) (Ju H) (Dk w.heap.size tg) (w.alloc (.cells (p.cells ko kc) 32)) e w'->Bf m rr o od h H (p.key.size+p.value.size) (Ju H) tg w e w'):=fun e w' hx=>Bf.q q0 hx;obtain⟨kind,dk,key,stamp,value,ks,a,b⟩:=p;simp only at hk hkey hval;have hcase:kind=3\/kind=4\/kind=5\/kind=6\/kind=7\/kind=8:=by omega
 rcases hcase with rfl|rfl|rfl|rfl|rfl|rfl
 .have CC:=hU (Y9 hA1 ⟨key,stamp,value,false⟩ hkey hval (fun e=>by cases e));unfold FK at CC;go_in;go_wp2_with fail;apply(CC.out ()).mono;rintro e w2 hx;obtain rfl:=hx.1;have NR:Hid (Bf m rr o od h H (key.size+value.size) (Ju H) tg w (.returned (.bool true)) w2):=HW.out _ _ (hx.more (zLK _));go_wp2;go_ret;exact NR.out
 .have CC:=hU (Y9 hA1 ⟨key,stamp,⟨#[]⟩,true⟩ hkey (zLS _) (fun _=>rfl));unfold FK at CC;go_in;go_wp2_with fail;apply(CC.out ()).mono;rintro e w2 hx;obtain rfl:=hx.1;have NR:Hid (Bf m rr o od h H (key.size+value.size) (Ju H) tg w (.returned (.bool true)) w2):=HW.out _ _ (hx.more (Nat.add_le_add_left (zLS _) _));go_wp2;go_ret;exact NR.out
 .have CC:=hU (oJ hA1 key stamp);go_in;go_wp2_with fail;apply(CC.out ()).mono;rintro e w2 hx;obtain rfl:=hx.1;have NR:Hid (Bf m rr o od h H (key.size+value.size) (Ju H) tg w (.returned (.bool true)) w2):=HW.out _ _ (hx.more (zLS _));go_wp2;go_ret;exact NR.out
 .have CC:=hU (aT hA1 stamp);go_in;go_wp2_with fail;apply(CC.out ()).mono;rintro e w2 hx;obtain rfl:=hx.1;have NR:Hid (Bf m rr o od h H (key.size+value.size) (Ju H) tg w (.returned (.bool true)) w2):=HW.out _ _ (hx.more (zLS _));go_wp2;go_ret;exact NR.out
 .have CC:=hU (aU hA1);go_in;go_wp2_with fail;apply(CC.out ()).mono;rintro e w2 hx;obtain rfl:=hx.1;have NR:Hid (Bf m rr o od h H (key.size+value.size) (Ju H) tg w (.returned (.bool true)) w2):=HW.out _ _ (hx.more (zLS _));go_wp2;go_ret;exact NR.out
 .have CC:=hU (VF hA1);go_in;go_wp2_with fail;apply(CC.out ()).mono;rintro e w2 hx;obtain rfl:=hx.1;have NR:Hid (Bf m rr o od h H (key.size+value.size) (Ju H) tg w (.returned (.bool true)) w2):=HW.out _ _ (hx.more (zLS _));go_wp2;go_ret;exact NR.out
abbrev OH(h:Nat):Value:=pT h
structure Bas where
 w:World
 fx:Nat
 ob:Option Obj
structure Az(w0:Bas)(w:World)(tg:Tags)(wb:Nat)(dt fp:Bool)(R:M.Hou->Option S.Sto->Prop)(bl:List Nat)(c b:Nat):Prop where
 q:Q w0.w w
 tab:Tab w0.w
 z:∀k,k<w0.w.heap.size->(tg k).1=0
 low:Low (3*bl.length+1) tg w
 hi:w0.w.heap.size<=wb
 top:wb<w.heap.size
 tw:(tg wb).1=0
 fr:∀j,w.frozen? (aD wb j)=false
 c1:w.cell? (aD wb 1)=some (.bool dt)
 c2:w.cell? (aD wb 2)=some (.bool fp)
 row:∃ao cap,w.cell? (aD wb 0)=some (.slice ao bl.length cap)/\w.ownsRow w0.w.heap.size 39 1 (.slice ao bl.length cap) bl.length (bl.map OH)/\∀g,(Value.slice ao bl.length cap).ownBlock=some g->(tg g).1=0/\g≠wb/\(w0.ob≠none->g≠w0.fx)
 ex:∀ob,w0.ob=some ob->w.heap[w0.fx]?=some ob/\(tg w0.fx).1=0/\w0.fx≠wb/\w0.fx<w.heap.size
 each:∀i h,bl[i]?=some h->∃H T X ls,Di w tg (3*i+1) (3*i+2) (3*i+3) h H T X ls/\S.Ff H T X ls/\H.calls<=c/\H.bytes<=b/\(i=0->R H X)
theorem Az.turn{w0:Bas}(hW:Az w0 w tg wb dt fp R bl c b)(k:Turn P tg w AU w')(h0:¬P 0)(hlow:Low (3*bl.length+1) AU w')(he:∀i h,bl[i]?=some h->∃H T X ls,Di w' AU (3*i+1) (3*i+2) (3*i+3) h H T X ls/\S.Ff H T X ls/\H.calls<=c'/\H.bytes<=b'/\(i=0->R' H X)):Az w0 w' AU wb dt fp R' bl c' b':=by
 have hs:=hW.q.below.size;have hbl:∀x,x<w.heap.size->(tg x).1=0->w'.heap[x]?=w.heap[x]?/\(AU x).1=0:=fun x hx e=>⟨k.block x hx (by rw[e];exact h0),by rw[k.tags x hx (by rw[e];exact h0)];exact e⟩;have hwb:=hbl wb hW.top hW.tw;obtain⟨ao,cap,r0,r1,r2⟩:=hW.row;refine⟨⟨⟨k.os.trans hW.q.below.os,k.tape.trans hW.q.below.tape,k.output.trans hW.q.below.output,zLV hs k.size,fun x hx=>((hbl x (by omega) (hW.z x hx)).1).trans (hW.q.below.block x hx)⟩⟩,hW.tab,fun x hx=>(hbl x (by omega) (hW.z x hx)).2,hlow,hW.hi,zLJ hW.top k.size,hwb.2,fun j=>(zML (a:=(aD wb j)) hwb.1).trans (hW.fr j),(zMI (a:=(aD wb 1)) hwb.1).trans hW.c1,(zMI (a:=(aD wb 2)) hwb.1).trans hW.c2,⟨ao,cap,(zMI (a:=(aD wb 0)) hwb.1).trans r0,Ai r1 (fun g hg=>(hbl g (r1.lt g hg).2 (r2 g hg).1).1),fun g hg=>⟨(hbl g (r1.lt g hg).2 (r2 g hg).1).2,(r2 g hg).2⟩⟩,fun ob e=>?_,he⟩;obtain⟨e1,e2,e3,e4⟩:=hW.ex ob e;have:=hbl _ e4 e2;exact⟨this.1.trans e1,this.2,e3,zLJ e4 k.size⟩
theorem Az.house{w0:Bas}(hW:Az w0 w tg wb dt fp R bl c b)(hi:bl[i]?=some h)(hc:c<=524288)(hb:b<=2097152):
  ∃H T X ls,GJ w tg (3*bl.length+1) (3*i+1) (3*i+2) (3*i+3) h H T X ls/\H.calls<=c/\H.bytes<=b/\(i=0->R H X):=by
 obtain⟨H,T,X,ls,g1,g2,g3,g4,g5⟩:=hW.each i h hi;have hlt:=(zLI.1 hi).1;have hz:=hW.z _ (ES hW.tab);exact⟨H,T,X,ls,⟨g1,g2,⟨CJ hW.tab hW.q,by rw[hz];unfold Mine;omega,hW.low,by omega,by omega,by omega,by omega,by omega,by omega,by omega⟩,by omega,by omega⟩,g3,g4,g5⟩
theorem Az.after{w0:Bas}{more:Nat}{e:Ending}(hW:Az w0 w tg wb dt fp R bl c b)(hi:bl[i]?=some h)(hs:Bf (3*bl.length+1) (3*i+1) (3*i+2) (3*i+3) h H more R' tg w e w')(hc:H.calls<=c)(hb:H.bytes<=b)(h1:∀K Y,R' K Y->R2 K Y)(h2:i≠0->∀K Y,R K Y->R2 K Y):e=.returned (.bool true)/\∃AU,Az w0 w' AU wb dt fp R2 bl (c+2) (b+more):=by
 obtain⟨he,AU,H',T',X',ls',g1,g2,g3,g4,g5,g6,g7⟩:=hs;refine⟨he,AU,hW.turn g3 (by unfold Mine;omega) g4.low (fun j hj hjb=>?_)⟩;by_cases e2:j=i
 .subst e2;rw[hi]at hjb;injection hjb with hjb;subst hjb;exact⟨H',T',X',ls',g1,g2,by omega,by omega,fun _=>h1 _ _ g7⟩
 .obtain⟨Hj,Tj,Xj,lj,k1,k2,k3,k4,k5⟩:=hW.each j hj hjb;refine⟨Hj,Tj,Xj,lj,k1.turn g3 (by unfold Mine;omega) (by unfold Mine;omega) (by unfold Mine;omega),k2,by omega,by omega,fun e3=>h2 (by omega) _ _ (k5 e3)⟩
theorem Az.keep{w0:Bas}(hW:Az w0 w tg wb dt fp R bl c b)(q:Q w w')(hc:c<=c')(hb:b<=b')(h2:∀K Y,R K Y->R2 K Y):Az w0 w' (Dk w.heap.size tg) wb dt fp R2 bl c' b':=by
 have k:Turn (fun _=>False) tg w (Dk w.heap.size tg) w':=Turn.Ed (Kept.Be q (fun x hx=>Ce hx));refine hW.turn k (fun e=>e) (Hu hW.low (by omega)) (fun j hj hjb=>?_);obtain⟨Hj,Tj,Xj,lj,k1,k2,k3,k4,k5⟩:=hW.each j hj hjb;exact⟨Hj,Tj,Xj,lj,k1.turn k (fun e=>e) (fun e=>e) (fun e=>e),k2,by omega,by omega,fun e3=>h2 _ _ (k5 e3)⟩
def LP(w0:Bas)(wb:Nat)(dt fp:Bool)(R:M.Hou->Option S.Sto->Prop)(bl:List Nat)(c b:Nat)(e:Ending)(w':World):Prop:=
 e=.returned (.bool true)/\∃AU,Az w0 w' AU wb dt fp R bl c b
theorem Az.at{w0:Bas}{w:World}{tg:Tags}{wb:Nat}{dt fp:Bool}{R:M.Hou->Option S.Sto->Prop}{bl:List Nat}{c b i:Nat}(hW:Az w0 w tg wb dt fp R bl c b)(hi:i<bl.length):∃g cap h,w.cell? (aD wb 0)=some (.slice (some (aD g 0)) bl.length cap)/\bl[i]?=some h/\w.cell? (aD g i)=some (OH h):=by
 obtain⟨ao,cap,y0,r1,r2⟩:=hW.row;obtain⟨h,hh⟩:∃h,bl[i]?=some h:=⟨_,zLH hi⟩;have hv:(bl.map OH)[i]?=some (OH h):=by rw[zLy,hh];rfl
 obtain⟨g,rfl,_,hg,hc⟩:=Cv r1 (fun e=>by rw[e]at hv;simp at hv);exact⟨g,cap,h,y0,hh,hc i _ hv⟩
theorem RY{w0:Bas}(hW:Az w0 w tg wb dt fp R bl c b)(hbl:0<bl.length)(M7:bl.length<=1048576)(hc:c<=524288)(hb:b<=2097152)(p:SOp)(ko:Option Addr)(kc:Nat)(hp:KZ p)(hk:p.kind=2)(h1:∀H X K Y,R H X->Opens H K Y->R2 K Y)(h2:1<bl.length->∀K Y,R2 K Y):
  Calls Tryz.prog 8 #[pT wb,.agg (p.cells ko kc)] w fun e w'=>LP w0 wb dt fp R2 bl (c+2) b e w':=by
 obtain⟨wa,Bp⟩:=ex (w.alloc (.cells (p.cells ko kc) 32));have qa:Q w wa:=by rw[Bp];exact(Q.refl w).alloc _ _
 have hWa:=hW.keep qa (zLK c) (zLK b) (fun _ _ e=>e);have hi:=D9 p.dk hbl;obtain⟨g,cap,h,y0,hh,yc⟩:=hWa.at hi;have Ui:Hid _:=fun(W:World)=>Fh p.dk hp.dk bl.length hbl W;obtain⟨i,hie⟩:=xe (DX p.dk bl.length);rw[hie]at hi hh yc Ui;have hdl:bl.length<=9223372036854775807:=by omega
 have HC:Hid (∀W,Q wa W->Calls Tryz.prog 12 #[pT h] W fun e w'=>LP w0 wb dt fp R2 bl (c+2) b e w'):=fun W q=>by
  have qg:=hWa.keep q (zLK c) (zLK b) (fun _ _ e=>e);obtain⟨H,T,X,ls,hS,g1,g2,g3⟩:=qg.house hh hc hb;apply(iE hS).mono;rintro e w' hx;by_cases hi0:i=0
  .exact qg.after hh hx g1 g2 (fun K Y=>h1 H X K Y (g3 hi0)) (fun e=>absurd hi0 e)
  .have h2':=h2 (by have:=hi;omega);exact qg.after hh hx g1 g2 (fun K Y _=>h2' K Y) (fun _ K Y _=>h2' K Y)
 have k1:wa.cell? (aD w.heap.size 1)=some (iT p.dk):=by rw[Bp];simp
 have k0:wa.cell? (aD w.heap.size 0)=some (iT 2):=by rw[Bp];simp[hk]
 have i1:(i:Int)<(bl.length:Int):=by omega
 have i0:(0:Int)<=(i:Int):=by omega
 have Zj:=h_ Bp;obtain⟨kind,dk,key,stamp,value,ks,a,b'⟩:=p;simp only at hk;subst hk;clear hW hWa Bp hp hie hi hh qa h1 h2;go_in;go_upto_region 5 with fail
 rw[<-Zj.out];clear Zj
 go_region_held3 (fun w'=>w'.cell? (aD wb 0)=some (.slice (some (aD g 0)) bl.length cap)/\w'.cell? (aD w.heap.size 1)=some (iT dk)/\w'.cell? (aD g i)=some (OH h)) (first|exact⟨y0,k1,yc⟩|exact Db)
  (first
   |(go_at_call 9;apply(Ui.out _).mono;rintro e w1⟨rfl,hw1⟩;have Db:w1.cell? (aD wb 0)=some (.slice (some (aD g 0)) bl.length cap)/\w1.cell? (aD w.heap.size 1)=some (iT dk)/\w1.cell? (aD g i)=some (OH h):=(by rw[hw1];exact⟨y0,k1,yc⟩)))
 clear Db Ui hw1;have GY:=hU (HC.out wa.drew ((Q.refl wa).drew));clear HC;go_wp2_with fail;apply(GY.out ()).mono;rintro e w2 hx;obtain rfl:=hx.1;have HX:=h_ hx;clear hx GY;go_wp2;go_ret;exact HX.out
theorem Oh{w0:Bas}(hW:Az w0 w tg wb dt fp R bl c b)(hbl:0<bl.length)(M7:bl.length<=1048576)(hc:c<=524288)(hb:b<=2097152)(p:SOp)(ko:Option Addr)(kc:Nat)(hp:KZ p)(hk:3<=p.kind/\p.kind<=8)(hz:(bl.length=1/\∀H X,R H X->X.isSome=true/\∀K Y,Ju H K Y->R2 K Y)\/∀K Y,R2 K Y):
  Calls Tryz.prog 8 #[pT wb,.agg (p.cells ko kc)] w fun e w'=>LP w0 wb dt fp R2 bl (c+2) (b+(p.key.size+p.value.size)) e w':=by
 obtain⟨wa,Bp⟩:=ex (w.alloc (.cells (p.cells ko kc) 32));have qa:Q w wa:=by rw[Bp];exact(Q.refl w).alloc _ _
 have hWa:=hW.keep qa (zLK c) (zLK b) (fun _ _ e=>e);have hi:=D9 p.dk hbl;obtain⟨g,cap,h,y0,hh,yc⟩:=hWa.at hi;have Ui:Hid _:=fun(W:World)=>Fh p.dk hp.dk bl.length hbl W;obtain⟨i,hie⟩:=xe (DX p.dk bl.length);rw[hie]at hi hh yc Ui;have hdl:bl.length<=9223372036854775807:=zLV M7 (by decide);obtain⟨H,T,X,ls,hS,g1,g2,g3⟩:=hWa.house hh hc hb;obtain⟨d,sv,lo,lc,L,ids,ps,_,Us,_,hST⟩:=hS.at_;have c2:=Us.c2;have k2:wa.cell? (aD w.heap.size 2)=some (sT p.key):=by rw[Bp];simp
 have k3:wa.cell? (aD w.heap.size 3)=some (iT p.stamp):=by rw[Bp];simp
 have k4:wa.cell? (aD w.heap.size 4)=some (sT p.value):=by rw[Bp];simp
 have k5:wa.cell? (aD w.heap.size 5)=some (.slice ko p.ks.length kc):=by rw[Bp];simp
 have k6:wa.cell? (aD w.heap.size 6)=some (iT p.a):=by rw[Bp];simp
 have k7:wa.cell? (aD w.heap.size 7)=some (iT p.b):=by rw[Bp];simp
 have HN:Hid (X=none->LP w0 wb dt fp R2 bl (c+2) (b+(p.key.size+p.value.size)) (.returned (.bool true)) wa.drew):=fun hX=>by
  rcases hz with⟨e1,e2⟩|e2
  .have:=(e2 H X (g3 (by omega))).1;rw[hX]at this
   cases this
  .exact⟨rfl,_,hWa.keep ((Q.refl wa).drew) (by omega) (by omega) (fun K Y _=>e2 K Y)⟩
 have HC:Hid (∀X1,X=some X1->∀W,Q wa W->Calls Tryz.prog 18 #[pT h,.agg (p.cells ko kc)] W fun e w'=>LP w0 wb dt fp R2 bl (c+2) (b+(p.key.size+p.value.size)) e w'):=fun X1 hX W q=>by
  subst hX;have qg:=hWa.keep q (zLK c) (zLK b) (fun _ _ e=>e);apply(pI (hS.q q) p ko kc hp hk).mono;rintro e w' hx;rcases hz with⟨e1,e2⟩|e2
  .exact qg.after hh hx g1 g2 (fun K Y=>(e2 H _ (g3 (by omega))).2 K Y) (fun e=>absurd (show i=0 by omega) e)
  .exact qg.after hh hx g1 g2 (fun K Y _=>e2 K Y) (fun _ K Y _=>e2 K Y)
 have k1:wa.cell? (aD w.heap.size 1)=some (iT p.dk):=by rw[Bp];simp
 have k0:wa.cell? (aD w.heap.size 0)=some (iT p.kind):=by rw[Bp];simp
 have i1:(i:Int)<(bl.length:Int):=by omega
 have i0:(0:Int)<=(i:Int):=by omega
 have Zj:=h_ Bp;obtain⟨kind,dk,key,stamp,value,ks,a,b'⟩:=p;simp only at hk;have e1:(kind==1)=false:=by rw[zM9];omega
 have n1:¬kind=1:=by omega
 have d1:decide (kind<2)=false:=by rw[decide_eq_false_iff_not];omega
 have d2:decide (11<kind)=false:=by rw[decide_eq_false_iff_not];omega
 have m1:¬kind<2:=by omega
 have m2:¬11<kind:=by omega
 have e2:(kind==2)=false:=by rw[zM9];omega
 have n2:¬kind=2:=by omega
 have e9:(kind==9)=false:=by rw[zM9];omega
 have n9:¬kind=9:=by omega
 have e10:(kind==10)=false:=by rw[zM9];omega
 have n10:¬kind=10:=by omega
 have e11:(kind==11)=false:=by rw[zM9];omega
 have n11:¬kind=11:=by omega
 clear hW hWa Bp hp hie hi hh qa hk hz hS g1 g2 g3 Us;go_in;go_upto_region 5 with fail
 rw[<-Zj.out];clear Zj
 go_region_held3 (fun w'=>w'.cell? (aD wb 0)=some (.slice (some (aD g 0)) bl.length cap)/\w'.cell? (aD w.heap.size 1)=some (iT dk)/\w'.cell? (aD g i)=some (OH h)) (first|exact⟨y0,k1,yc⟩|exact Db)
  (first
   |(go_at_call 9;apply(Ui.out _).mono;rintro e w1⟨rfl,hw1⟩;have Db:w1.cell? (aD wb 0)=some (.slice (some (aD g 0)) bl.length cap)/\w1.cell? (aD w.heap.size 1)=some (iT dk)/\w1.cell? (aD g i)=some (OH h):=(by rw[hw1];exact⟨y0,k1,yc⟩)))
 clear Db Ui hw1
 cases X with
 |none =>
  have hsv:sv=.pointer none:=hST;subst hsv;have HX:=HN.out rfl;have NR:=h_ HX;clear HN HC HX hST;go_wp2;go_ret;exact NR.out
 |some X1 =>
  obtain⟨s,_,_,rfl,_⟩:=hST;have GY:=hU (HC.out X1 rfl wa.drew ((Q.refl wa).drew));clear HC HN;go_wp2_with fail;apply(GY.out ()).mono;rintro e w2 hx;obtain rfl:=hx.1;have HX:=h_ hx;clear hx GY;go_wp2;go_ret;exact HX.out
theorem aB{w0:Bas}(hW:Az w0 w tg wb dt fp R bl c b)(hbl:0<bl.length)(M7:bl.length<=1048576)(hc:c<=524288)(hb:b<=2097152)(p:SOp)(ko:Option Addr)(kc:Nat)(hp:KZ p)(hk:p.kind=11):
  Calls Tryz.prog 8 #[pT wb,.agg (p.cells ko kc)] w fun e w'=>LP w0 wb dt fp (fun _ _=>True) bl (c+2) b e w':=by
 obtain⟨wa,Bp⟩:=ex (w.alloc (.cells (p.cells ko kc) 32));have qa:Q w wa:=by rw[Bp];exact(Q.refl w).alloc _ _
 have hWa:=hW.keep qa (zLK c) (zLK b) (fun _ _ e=>e);have hi:=D9 p.dk hbl;obtain⟨g,cap,h,y0,hh,yc⟩:=hWa.at hi;have Ui:Hid _:=fun(W:World)=>Fh p.dk hp.dk bl.length hbl W;obtain⟨i,hie⟩:=xe (DX p.dk bl.length);rw[hie]at hi hh yc Ui;have hdl:bl.length<=9223372036854775807:=zLV M7 (by decide);have k2:wa.cell? (aD w.heap.size 2)=some (sT p.key):=by rw[Bp];simp
 have k3:wa.cell? (aD w.heap.size 3)=some (iT p.stamp):=by rw[Bp];simp
 have k4:wa.cell? (aD w.heap.size 4)=some (sT p.value):=by rw[Bp];simp
 have k5:wa.cell? (aD w.heap.size 5)=some (.slice ko p.ks.length kc):=by rw[Bp];simp
 have k6:wa.cell? (aD w.heap.size 6)=some (iT p.a):=by rw[Bp];simp
 have k7:wa.cell? (aD w.heap.size 7)=some (iT p.b):=by rw[Bp];simp
 have w2:=hWa.c2;have HN:Hid (LP w0 wb dt fp (fun _ _=>True) bl (c+2) b (.returned (.bool true)) wa.drew):=⟨rfl,_,hWa.keep ((Q.refl wa).drew) (by omega) (by omega) (fun _ _ _=>trivial)⟩;have HC:Hid (∀W,Q wa W->Calls Tryz.prog 17 #[pT h,.agg (p.cells ko kc)] W fun e w'=>LP w0 wb dt fp (fun _ _=>True) bl (c+2) b e w'):=fun W q=>by
  have qg:=hWa.keep q (zLK c) (zLK b) (fun _ _ e=>e);obtain⟨H,T,X,ls,hS,g1,g2,g3⟩:=qg.house hh hc hb;apply(iG hS p ko kc hp.a hp.b hp.stamp).mono;rintro e w' hx;exact qg.after hh hx g1 g2 (fun K Y _=>trivial) (fun _ K Y _=>trivial)
 have k1:wa.cell? (aD w.heap.size 1)=some (iT p.dk):=by rw[Bp];simp
 have k0:wa.cell? (aD w.heap.size 0)=some (iT p.kind):=by rw[Bp];simp
 have i1:(i:Int)<(bl.length:Int):=by omega
 have i0:(0:Int)<=(i:Int):=by omega
 have Zj:=h_ Bp;obtain⟨kind,dk,key,stamp,value,ks,a,b'⟩:=p;simp only at hk;subst hk;clear hW hWa Bp hp hie hi hh qa;go_in;go_upto_region 5 with fail
 rw[<-Zj.out];clear Zj
 go_region_held3 (fun w'=>w'.cell? (aD wb 0)=some (.slice (some (aD g 0)) bl.length cap)/\w'.cell? (aD w.heap.size 1)=some (iT dk)/\w'.cell? (aD g i)=some (OH h)) (first|exact⟨y0,k1,yc⟩|exact Db)
  (first
   |(go_at_call 9;apply(Ui.out _).mono;rintro e w1⟨rfl,hw1⟩;have Db:w1.cell? (aD wb 0)=some (.slice (some (aD g 0)) bl.length cap)/\w1.cell? (aD w.heap.size 1)=some (iT dk)/\w1.cell? (aD g i)=some (OH h):=(by rw[hw1];exact⟨y0,k1,yc⟩)))
 clear Db Ui hw1
 cases fp with
 |false =>
  have NR:=h_ HN.out;clear HN HC;go_wp2;go_ret;exact NR.out
 |true =>
  have GY:=hU (HC.out wa.drew ((Q.refl wa).drew));clear HC HN;go_wp2_with fail;apply(GY.out ()).mono;rintro e w3 hx;obtain rfl:=hx.1;have HX:=h_ hx;clear hx GY;go_wp2;go_ret;exact HX.out
theorem gQ{w0:Bas}(hW:Az w0 w tg wb dt fp R bl c b)(hbl:0<bl.length)(M7:bl.length<=1048576)(hc:c<=524288)(hb:b<=2097152)(p:SOp)(ko:Option Addr)(kc:Nat)(hp:KZ p)(hk:p.kind=9):
  Calls Tryz.prog 8 #[pT wb,.agg (p.cells ko kc)] w fun e w'=>LP w0 wb dt fp (fun _ _=>True) bl (c+2) b e w':=by
 obtain⟨wa,Bp⟩:=ex (w.alloc (.cells (p.cells ko kc) 32));have qa:Q w wa:=by rw[Bp];exact(Q.refl w).alloc _ _
 have hWa:=hW.keep qa (zLK c) (zLK b) (fun _ _ e=>e);have hi:=D9 p.dk hbl;obtain⟨g,cap,h,y0,hh,yc⟩:=hWa.at hi;have Ui:Hid _:=fun(W:World)=>Fh p.dk hp.dk bl.length hbl W;obtain⟨i,hie⟩:=xe (DX p.dk bl.length);rw[hie]at hi hh yc Ui;have hdl:bl.length<=9223372036854775807:=zLV M7 (by decide);have k2:wa.cell? (aD w.heap.size 2)=some (sT p.key):=by rw[Bp];simp
 have k3:wa.cell? (aD w.heap.size 3)=some (iT p.stamp):=by rw[Bp];simp
 have k4:wa.cell? (aD w.heap.size 4)=some (sT p.value):=by rw[Bp];simp
 have k5:wa.cell? (aD w.heap.size 5)=some (.slice ko p.ks.length kc):=by rw[Bp];simp
 have k6:wa.cell? (aD w.heap.size 6)=some (iT p.a):=by rw[Bp];simp
 have k7:wa.cell? (aD w.heap.size 7)=some (iT p.b):=by rw[Bp];simp
 obtain⟨MX,JN⟩:=ex (Dk wa.heap.size (Dk w.heap.size tg));have hWd:=hWa.keep ((Q.refl wa).drew) (zLK c) (zLK b) (fun _ _ e=>e);rw[<-JN]at hWd;obtain⟨H,T,X,ls,hS,g1,g2,g3⟩:=hWd.house hh hc hb;obtain⟨d,sv,lo,lc,L,ids,ps,uW,Us,rC,hST⟩:=hS.at_;have hE:=hS.env;have hok:=hS.ok;have V6:wa.heap.size=w.heap.size+1:=by rw[Bp];simp
 have hl0:(MX w.heap.size).1=0:=by rw[JN,Ce (by omega)];unfold Dk;rw[if_neg (by omega)]
 have w1:=hWa.c1;have HN:Hid (LP w0 wb dt fp (fun _ _=>True) bl (c+2) b (.returned (.bool true)) wa.drew):=⟨rfl,_,hWa.keep ((Q.refl wa).drew) (by omega) (by omega) (fun _ _ _=>trivial)⟩;have c3:=Us.c3;have c9:=Us.c9;have f9:=Us.fr 9;have hLl:L.length<=32:=by have:=hok.few;rw[<-uW,zM2]at this;exact this
 obtain⟨w5,jw⟩:=ex ((wa.setCell (aD h 9) (.bool true)).drew);obtain⟨h5,k5⟩:=Us.set 9 (.bool true) (ru:=pT d) (oF:=sv) (H':={ H with armed:=true }) (by omega) rfl rfl rfl rfl rfl rfl rfl rfl rfl;rw[show wa.drew.setCell (aD h 9) (.bool true)=w5 from jw.symm]at h5 k5;have hD5:AJ w5 MX (3*i+3) d T.dsk ids ps:=rC.keep k5.size k5.tags (fun x hx e=>k5.block x hx (by rw[e];omega));have hpk:=D9 p.a (n:=40) (by omega);have PB:Hid _:=fun(W:World)=>Fh p.a hp.a 40 (by omega) W;obtain⟨pk,zAx⟩:=xe (DX p.a 40);rw[zAx]at PB hpk;have hae:T.dsk.arm (1+(pk:Int))=(({ T with Ae:=1+pk }:S.Two).dsk,0):=by
  unfold M.Dsk.arm;rw[if_neg (by omega),show(1+(pk:Int)).toNat=1+pk by omega];rfl
 have hfn:({ T with Ae:=1+pk }:S.Two).dsk.BS:=by
  have:=hok.fine.arm (n:=1+(pk:Int)) (by omega);rw[hae]at this;exact this
 have FC:Hid _:=fun(W:World)(q:Q w5 W)=>yG MX (3*i+3) d T.dsk ids ps (1+(pk:Int)) W (hD5.kept q);rw[hae]at FC;have e0:=h5.c0;have hhn:h≠w.heap.size:=fun e=>by rw[<-e,Us.th]at hl0;simp at hl0
 have e6:w5.cell? (aD w.heap.size 6)=some (iT p.a):=by
  rw[jw];exact(zMH _ _ _ _ (by intro e;injection e with e;first|exact hhn e|exact hhn e.symm)).trans k6
 have hl5:h<w5.heap.size/\w.heap.size<w5.heap.size/\(MX h).1=3*i+1/\(MX w.heap.size).1=0:=⟨h5.top,by have:=k5.size;have:wa.drew.heap.size=wa.heap.size:=rfl;omega,by rw[Us.th],hl0⟩;have ew:IntKind.i64.wrap (1+(pk:Int))=1+(pk:Int):=by rw[IntKind.wrap_i64];omega
 have HF:Hid (L.length<=16->∀v2,AJ v2 MX (3*i+3) d ({ T with Ae:=1+pk }:S.Two).dsk ids ps->Only (3*i+3) MX w5.drew v2->LP w0 wb dt fp (fun _ _=>True) bl (c+2) b (.returned (.bool true)) v2):=fun hlen v2 hD7 XJ=>by
  have kX:Kept (·=3*i+3) MX w5.drew MX v2:=Kept.DI XJ (fun _ _=>rfl) rfl;have qo:Kept (fun _=>False) MX w5 MX w5.drew:=Kept.Be ((Q.refl w5).drew) (fun _ _=>rfl);have hK:Kept (fun x=>x=3*i+1\/x=3*i+3) MX wa.drew MX v2:=(k5.wider (fun x e=>Or.inl e)).trans ((qo.wider (fun x e=>e.elim)).trans (kX.wider (fun x e=>Or.inr e)));have hx:Bf (3*bl.length+1) (3*i+1) (3*i+2) (3*i+3) h H 0 (fun _ _=>True) MX wa.drew (.returned (.bool true)) v2:=DW hE rfl (Turn.Ed hK) (fun x e=>by rcases e with e|e<;>simp[Mine,e]) ⟨d,sv,lo,lc,L,ids,ps,uW,(h5.keep qo (fun e=>e)).keep kX (by omega),hD7,hST.keep hK.size hK.tags (fun x hx e=>hK.block x hx (by rw[e];omega))⟩ (hok.armed (by rw[<-uW,zM2];exact hlen) rfl hfn) (by simp) (by simp) trivial;exact hWd.after hh hx g1 g2 (fun K Y _=>trivial) (fun _ K Y _=>trivial)
 have qK:=h_ jw;have k1:wa.cell? (aD w.heap.size 1)=some (iT p.dk):=by rw[Bp];simp
 have k0:wa.cell? (aD w.heap.size 0)=some (iT p.kind):=by rw[Bp];simp
 have i1:(i:Int)<(bl.length:Int):=by omega
 have i0:(0:Int)<=(i:Int):=by omega
 have Zj:=h_ Bp;obtain⟨kind,dk,key,stamp,value,ks,a,b'⟩:=p;simp only at hk;subst hk;clear hW hWa Bp hp hie hi hh qa JN hWd uW Us rC hST hS hE hok g1 g2 g3 jw h5 k5 hD5 zAx hpk hae hfn V6 hhn;go_in;go_upto_region 5 with fail
 rw[<-Zj.out];clear Zj
 go_region_held3 (fun w'=>w'.cell? (aD wb 0)=some (.slice (some (aD g 0)) bl.length cap)/\w'.cell? (aD w.heap.size 1)=some (iT dk)/\w'.cell? (aD g i)=some (OH h)) (first|exact⟨y0,k1,yc⟩|exact Db)
  (first
   |(go_at_call 9;apply(Ui.out _).mono;rintro e w1⟨rfl,hw1⟩;have Db:w1.cell? (aD wb 0)=some (.slice (some (aD g 0)) bl.length cap)/\w1.cell? (aD w.heap.size 1)=some (iT dk)/\w1.cell? (aD g i)=some (OH h):=(by rw[hw1];exact⟨y0,k1,yc⟩)))
 clear Db Ui hw1;have hdc:dt=false\/(dt=true/\¬L.length<=16)\/(dt=true/\L.length<=16):=by
  cases dt
  .exact Or.inl rfl
  .by_cases e:L.length<=16
   .exact Or.inr (Or.inr ⟨rfl,e⟩)
   .exact Or.inr (Or.inl ⟨rfl,e⟩)
 rcases hdc with rfl|⟨rfl,hll⟩|⟨rfl,hll⟩
 .have NR:=h_ HN.out;clear HN FC HF PB qK;go_wp2;go_ret;exact NR.out
 .have NR:=h_ HN.out;have hl1:¬((L.length:Int)<=16):=by omega
  have hl2:decide ((L.length:Int)<=16)=false:=by rw[decide_eq_false_iff_not];omega
  clear HN FC HF PB qK hll;go_wp2;go_ret;exact NR.out
 .have HFF:Hid _:=HF.out hll;have hl1:((L.length:Int)<=16):=by omega
  have hl2:decide ((L.length:Int)<=16)=true:=by rw[decide_eq_true_iff];omega
  clear HN HF hll;go_upto_region 12 with fail
  rw[<-qK.out];clear qK;refine wp_region_held_drew (S:=fun w'=>w'.cell? (aD h 0)=some (pT d)/\w'.cell? (aD w.heap.size 6)=some (iT a)) (by kernel_rfl) ⟨e0,e6⟩ (fun hHeld=>?_);refine q4 0 ?_;refine q4 1 ?_;refine q4 2 ?_;refine q4 3 ?_;refine q4 4 ?_;refine q4 5 ?_;refine rd1 6 (fun K hK=>?_);go_simp;apply(PB.out _).mono;rintro e v1⟨rfl,q1⟩
  try go_wp2_with fail
  refine hK.out _ _ hHeld (fun AO=>?_);clear hK K hHeld;have hHeld:=AO;clear AO
  try simp only[Act.put,nrm]
  refine q4 7 ?_;refine rd1 8 (fun K hK=>?_);go_simp;apply(FC.out _ ((Q.refl w5).drew)).mono;rintro e v2⟨rfl,hD7,XJ⟩
  try go_wp2_with fail
  refine hK.out _ _ (by
   have b1:=XJ.block h hl5.1 (by rw[hl5.2.2.1];omega);have b2:=XJ.block w.heap.size hl5.2.1 (by rw[hl5.2.2.2];omega);exact⟨(zMI (a:=(aD h 0)) b1).trans hHeld.1,(zMI (a:=(aD w.heap.size 6)) b2).trans hHeld.2⟩) (fun AO=>?_)
  clear hK K hHeld;have hHeld:=AO;clear AO
  try simp only[Act.put,nrm]
  refine q4 9 ?_;refine wpAnyH_done (by kernel_rfl) ?_ _;clear hHeld;have HX:=h_ (HFF.out v2 hD7 XJ);clear HFF hD7 XJ;go_wp2;go_ret;exact HX.out
theorem VE:Hq w tg o d (.pointer none) none:=rfl
def NQ(w0:World)(ks:List Int)(ko:Option Addr):Prop:=∀(j:Nat)(x:Int),ks[j]?=some x->∃b off,ko=some (aD b off)/\w0.cell? (aD b (off+j))=some (iT x)/\b<w0.heap.size
theorem XU{w0:Bas}(hW:Az w0 w tg wb dt fp R bl c b)(hbl:0<bl.length)(M7:bl.length<=1048576)(hc:c<=524288)(hb:b<=2097152)(p:SOp)(ko:Option Addr)(kc:Nat)(hp:KZ p)(hk:p.kind=10)(hks:NQ w0.w p.ks ko):
  Calls Tryz.prog 8 #[pT wb,.agg (p.cells ko kc)] w fun e w'=>LP w0 wb dt fp (fun _ _=>True) bl (c+2) b e w':=by
 obtain⟨wa,Bp⟩:=ex (w.alloc (.cells (p.cells ko kc) 32));have qa:Q w wa:=by rw[Bp];exact(Q.refl w).alloc _ _
 have hWa:=hW.keep qa (zLK c) (zLK b) (fun _ _ e=>e);have hi:=D9 p.dk hbl;obtain⟨g,cap,h,y0,hh,yc⟩:=hWa.at hi;have Ui:Hid _:=fun(W:World)=>Fh p.dk hp.dk bl.length hbl W;obtain⟨i,hie⟩:=xe (DX p.dk bl.length);rw[hie]at hi hh yc Ui;have hdl:bl.length<=9223372036854775807:=zLV M7 (by decide);have k2:wa.cell? (aD w.heap.size 2)=some (sT p.key):=by rw[Bp];simp
 have k3:wa.cell? (aD w.heap.size 3)=some (iT p.stamp):=by rw[Bp];simp
 have k4:wa.cell? (aD w.heap.size 4)=some (sT p.value):=by rw[Bp];simp
 have k5:wa.cell? (aD w.heap.size 5)=some (.slice ko p.ks.length kc):=by rw[Bp];simp
 have k6:wa.cell? (aD w.heap.size 6)=some (iT p.a):=by rw[Bp];simp
 have k7:wa.cell? (aD w.heap.size 7)=some (iT p.b):=by rw[Bp];simp
 obtain⟨MX,JN⟩:=ex (Dk wa.heap.size (Dk w.heap.size tg));have hWd:=hWa.keep ((Q.refl wa).drew) (zLK c) (zLK b) (fun _ _ e=>e);rw[<-JN]at hWd;obtain⟨H,T,X,ls,hS,g1,g2,g3⟩:=hWd.house hh hc hb;obtain⟨d,sv,lo,lc,L,ids,ps,uW,Us,rC,hST⟩:=hS.at_;have hE:=hS.env;have hok:=hS.ok;have V6:wa.heap.size=w.heap.size+1:=by rw[Bp];simp
 have hl0:(MX w.heap.size).1=0:=by rw[JN,Ce (by omega)];unfold Dk;rw[if_neg (by omega)]
 have w1:=hWa.c1;have HN:Hid (LP w0 wb dt fp (fun _ _=>True) bl (c+2) b (.returned (.bool true)) wa.drew):=⟨rfl,_,hWa.keep ((Q.refl wa).drew) (by omega) (by omega) (fun _ _ _=>trivial)⟩;have e0:=Us.c0;have e5:=k5;have hLl:L.length<=32:=by have:=hok.few;rw[<-uW,zM2]at this;exact this
 have hl5:h<wa.heap.size/\w.heap.size<wa.heap.size/\(MX h).1=3*i+1/\(MX w.heap.size).1=0:=⟨Us.top,by omega,by rw[Us.th],hl0⟩;have hrow:∀W,Q wa.drew W->Yw W MX (3*i+3) p.ks ko:=fun W q j x hx=>by
  obtain⟨bb,off,g4,g5,g6⟩:=hks j x hx;have hq:=hWd.q.trans q;exact⟨bb,off,g4,AA g5 hq,zLJ g6 hq.below.size,by rw[hWd.z bb g6];omega⟩
 have FC:Hid _:=fun(W:World)(q:Q wa.drew W)=>lV MX (3*i+3) d T.dsk ids ps hok.fine p.ks ko kc W (hrow W q) (rC.kept q);obtain⟨b6,hcr,_⟩:=T.lY p.ks (fun x n e=>by
  have:=hok.synced;rw[e]at this;simp only[S.made,zM1,zLO,Prod.mk.injEq,true_and]at this;exact this.symm)
 have hfc:=hok.fine.RQ p.ks;rw[hcr]at FC hfc;obtain⟨T1,hT1⟩:∃T1:S.Two,T1={ T with b:=b6,dead:=false,Ae:=0 }:=⟨_,rfl⟩;rw[<-hT1]at FC hfc;have t1:T1.dead=false:=by rw[hT1]
 have t2:T1.Ae=0:=by rw[hT1]
 have t3:T1.a=T.a:=by rw[hT1]
 have t4:T1.cap=T.cap:=by rw[hT1]
 have hcp:=S.UR t1 t2 (by rw[t3];exact hok.synced);have hf2:=M.IY hfc T1.dsk.files.length (zLK _);rw[hcp]at hf2;have zAz:S.Ff H T none (S.again ls):=hok.again rfl rfl rfl (zLK _) (zLK _) id;have hok2:S.Ff { H with quiet:=false,armed:=false } { T1 with b:=S.made T1.b } none (S.again ls):=zAz.disk t4 t3 hf2 rfl rfl (zLK _) (zLK _) (fun _=>⟨t2,t1⟩) (fun e=>absurd t2 e.1) (fun e=>by cases e);have HF:Hid (∀(w9:World)(zD:Tags)(d':Nat)(L':List LV)(lo':Option Addr)(IC:Nat)(i9 j9:List Nat),Kept (fun x=>Mine (3*i+1) (3*i+2) (3*i+3) x\/x=3*bl.length+1) MX wa.drew zD w9->A7 w9 zD (3*i+1) h (pT d') (.pointer none) lo' IC L' { H with quiet:=false,armed:=false }->L'.map (fun x=>x.l)=(L.map fun x=>x.l.again).flatten->AJ w9 zD (3*bl.length+1) d' (M.FE T1.dsk T1.dsk.files.length) i9 j9->LP w0 wb dt fp (fun _ _=>True) bl (c+2) b (.returned (.bool true)) w9):=fun w9 zD d' L' lo' IC i9 j9 hK hH9 hm9 hD9=>by
  rw[hcp]at hD9;obtain⟨f1,f2,f3,f4,f5,f6⟩:=Sy (ox:=3*bl.length+1) hE (Or.inr rfl) hK (fun x e=>e) hH9 hD9;have zEf:L'.map (fun x=>x.l)=S.again ls:=by rw[hm9,<-uW];unfold S.again;rw[List.map_map];rfl
  have hx:Bf (3*bl.length+1) (3*i+1) (3*i+2) (3*i+3) h H 0 (fun _ _=>True) MX wa.drew (.returned (.bool true)) w9:=DW hE rfl f6 (fun x e=>e) ⟨d',.pointer none,lo',IC,L',i9,j9,rfl,f1,f2,VE⟩ (by rw[zEf];exact hok2) (by simp) (by simp) trivial;exact hWd.after hh hx g1 g2 (fun K Y _=>trivial) (fun _ K Y _=>trivial)
 have HS:=h_4 Us hfc t1 (t4.trans hok.cap);have hib:i<bl.length:=hi;have k1:wa.cell? (aD w.heap.size 1)=some (iT p.dk):=by rw[Bp];simp
 have k0:wa.cell? (aD w.heap.size 0)=some (iT p.kind):=by rw[Bp];simp
 have i1:(i:Int)<(bl.length:Int):=by omega
 have i0:(0:Int)<=(i:Int):=by omega
 have Zj:=h_ Bp;obtain⟨kind,dk,key,stamp,value,ks,a,b'⟩:=p;simp only at hk;subst hk;clear hW hWa Bp hp hie hi hh qa JN hWd uW Us rC hST hS hE hok g1 g2 g3 V6 hks hrow hcr hfc hT1 t1 t2 t3 t4 hcp hf2 zAz hok2;go_in;go_upto_region 5 with fail
 rw[<-Zj.out];clear Zj
 go_region_held3 (fun w'=>w'.cell? (aD wb 0)=some (.slice (some (aD g 0)) bl.length cap)/\w'.cell? (aD w.heap.size 1)=some (iT dk)/\w'.cell? (aD g i)=some (OH h)) (first|exact⟨y0,k1,yc⟩|exact Db)
  (first
   |(go_at_call 9;apply(Ui.out _).mono;rintro e w1⟨rfl,hw1⟩;have Db:w1.cell? (aD wb 0)=some (.slice (some (aD g 0)) bl.length cap)/\w1.cell? (aD w.heap.size 1)=some (iT dk)/\w1.cell? (aD g i)=some (OH h):=(by rw[hw1];exact⟨y0,k1,yc⟩)))
 clear Db Ui hw1
 cases dt with
 |false =>
  have NR:=h_ HN.out;clear HN FC HF HS;go_wp2;go_ret;exact NR.out
 |true =>
  clear HN;go_upto_region 17 with fail
  refine wp_region_held_drew (S:=fun w'=>w'.cell? (aD h 0)=some (pT d)/\w'.cell? (aD w.heap.size 5)=some (.slice ko ks.length kc)) (by kernel_rfl) ⟨e0,e5⟩ (fun hHeld=>?_);refine q4 0 ?_;refine q4 1 ?_;refine q4 2 ?_;refine q4 3 ?_;refine q4 4 ?_;refine q4 5 ?_;refine rd1 6 (fun K hK=>?_);go_simp;apply(FC.out _ ((Q.refl wa.drew).drew)).mono;rintro e v1⟨rfl,JW,i6,j6,qN,hD6,YO⟩
  try go_wp2_with fail
  refine hK.out _ _ (by
   have b1:=YO.block h hl5.1 (by rw[hl5.2.2.1];omega);have b2:=YO.block w.heap.size hl5.2.1 (by rw[hl5.2.2.2];omega);exact⟨(zMI (a:=(aD h 0)) b1).trans hHeld.1,(zMI (a:=(aD w.heap.size 5)) b2).trans hHeld.2⟩) (fun AO=>?_)
  clear hK K hHeld;have hHeld:=AO;clear AO
  try simp only[Act.put,nrm]
  refine wpAnyH_done (by kernel_rfl) ?_ _;clear hHeld;have MZ:Kept (·=3*i+3) MX wa.drew.drew JW v1:=Kept.DI YO qN rfl;have qo:Kept (fun _=>False) MX wa.drew MX wa.drew.drew:=Kept.Be ((Q.refl wa.drew).drew) (fun _ _=>rfl);have hh6:=(HS.out.1.keep qo (fun e=>e)).keep MZ (by omega);have AG:=hU (QI hh6 (by omega));have H6:Hid (AJ v1 JW (3*i+3) d T1.dsk i6 j6/\Kept (fun x=>Mine (3*i+1) (3*i+2) (3*i+3) x\/x=3*bl.length+1) MX wa.drew JW v1):=⟨hD6,(qo.wider (fun x e=>e.elim)).trans (MZ.wider (fun x e=>Or.inl (Or.inr (Or.inr e))))⟩;clear FC YO qN hD6 MZ qo hh6;go_wp2_with fail;apply(AG.out ()).mono;rintro e w7⟨tg7,L',lo',IC,rfl,hmap,zZ,kX⟩;have hD7:AJ w7 tg7 (3*i+3) d T1.dsk i6 j6:=H6.out.1.keep kX.size kX.tags (fun x hx e=>kX.block x hx (by rw[e];omega));have f8:=zZ.fr 8;have f9:=zZ.fr 9;have d8:=zZ.c8;have d9:=zZ.c9;obtain⟨h8,k8⟩:=zZ.set 8 (.bool false) (ru:=pT d) (oF:=.pointer none) (H':={ H with quiet:=false }) (by omega) rfl rfl rfl rfl rfl rfl rfl rfl rfl;obtain⟨h9,k9⟩:=h8.set 9 (.bool false) (ru:=pT d) (oF:=.pointer none) (H':={ H with quiet:=false,armed:=false }) (by omega) rfl rfl rfl rfl rfl rfl rfl rfl rfl;have k79:=k8.trans k9;have hD9:=hD7.keep k79.size k79.tags (fun x hx e=>k79.block x hx (by rw[e];omega));have CP:=hU (Nj (Gx:=3*bl.length+1) h9 hD9 HS.out.2.1 HS.out.2.2.1 HS.out.2.2.2.symm (by omega) (by omega));have H9:Hid (L'.map (fun x=>x.l)=(L.map fun x=>x.l.again).flatten/\Kept (fun x=>Mine (3*i+1) (3*i+2) (3*i+3) x\/x=3*bl.length+1) MX wa.drew tg7 ((w7.setCell (aD h 8) (.bool false)).setCell (aD h 9) (.bool false))):=⟨hmap,H6.out.2.trans ((kX.trans k79).wider (fun x e=>Or.inl (Or.inl e)))⟩;clear AG H6 hmap zZ kX hD7 h8 k8 h9 k9 k79 hD9 HS;go_wp2_with fail;apply(CP.out ()).mono;rintro e w9⟨rfl,zD,d',i9,j9,_,hK9,uM,zBf⟩;have HX:Hid (LP w0 wb true fp (fun _ _=>True) bl (c+2) b (.returned (.bool true)) w9):=HF.out w9 zD d' L' lo' IC i9 j9 (H9.out.2.trans (hK9.wider (fun x e=>e.elim (fun e=>Or.inl (Or.inl e)) Or.inr))) uM H9.out.1 zBf;clear HF H9 CP hK9 uM zBf;go_wp2;go_ret;exact HX.out
theorem jq:(Tryz.prog.info? 39).map (fun i=>(i.zero,i.size,i.bytes))=some (some (.pointer none),1,8):=by kernel_rfl
abbrev OT(d n:Nat):List Value:=[pT d,iT (n:Int),.pointer none,nS,.bool false,iT 0,iT 0,.bool false,.bool false,.bool false]
def EA:LV:=⟨none,none,0,0,⟨M.fresh,M.fresh,false,false,false⟩⟩
def vO(n n1 n3:Nat)(tg:Tags)(k:Nat):Tags:=fun x=>if x<n then tg x else if x<n1 then(3*k+3,0)else if x=n1 then(3*k+1,0)else if x=n3 then(3*k+1,1)else(0,0)
theorem qP(hn:n<=1048576):S.Ff ⟨n,false,0,0,false,false,false⟩ ⟨n,none,none,false,0⟩ none [EA.l]:=by
 have hm:∀x,x∈[EA.l]->x=EA.l:=fun x hx=>by simpa using hx
 refine⟨rfl,M.Zl hn,fun _=>⟨rfl,rfl⟩,fun x hx=>?_,by simp,fun _=>by simp,fun x hx e=>?_,fun e=>(by cases e),fun _ x hx=>?_,fun e=>absurd rfl e,[],fun _=>[],EA.l,by simp,⟨Or.inl ⟨rfl,rfl,rfl⟩,?_,by show(-1:Int)<=-1;omega,by show(-1:Int)<=_;omega,fun k=>⟨0,by simp,?_⟩⟩,⟨S.Ea.none,⟨[],rfl⟩,fun _=>rfl,by simp[S.Kw,S.facts,EA,M.fresh],by simp[EA,M.fresh]⟩,rfl,rfl,rfl⟩
 .rw[hm x hx];exact⟨by simp[EA,M.fresh],by simp[EA,M.fresh],fun v hv=>(by cases hv),fun v hv=>(by cases hv)⟩
 .rw[hm x hx]at e;cases e
 .rw[hm x hx];exact⟨rfl,rfl⟩
 .exact S.Fil.none CU
 .show S.needs (-1) (S.fv (S.facts []) k)<=0
  simp[S.fv,S.facts,S.needs]
theorem pR{w0:Bas}{W5 W6 w7:World}{ao Dj:Option Addr}{cap cap':Nat}(hW:Az w0 w tg wb dt fp R bl c b)(hn:n<=1048576)(h0:bl.length=0->∀n,R2 ⟨n,false,0,0,false,false,false⟩ none)(h1:bl.length≠0->∀H X,R H X->R2 H X)(y0:w.cell? (aD wb 0)=some (.slice ao bl.length cap))(hrow:w.ownsRow w0.w.heap.size 39 1 (.slice ao bl.length cap) bl.length (bl.map OH))(hrt:∀g,(Value.slice ao bl.length cap).ownBlock=some g->(tg g).1=0/\g≠wb/\(w0.ob≠none->g≠w0.fx))(hL1:AJ w1 (tg.more w.heap.size (3*bl.length+3) 0) (3*bl.length+3) w.heap.size ⟨n,[],false,0⟩ [] [])(q1:Q w w1)(q3:Q (w1.alloc (.cells (OT w.heap.size n).toArray 38)) w3)(LJ:W5=(w3.alloc (.cells EA.cells.toArray 49)).setCell (aD w1.heap.size 3) (.slice (some (aD w3.heap.size 0)) 1 1))(Tv:W6=W5.alloc (.cells #[OH w1.heap.size] 39))(hown:w7.ownsRow w0.w.heap.size 39 1 (.slice Dj (bl.length+1) cap') (bl.length+1) (bl.map OH++[OH w1.heap.size]))(hg:W6.grownBy w7 (Value.slice ao bl.length cap).ownBlock)(Gy:(Value.slice Dj (bl.length+1) cap').ownBlock=(Value.slice ao bl.length cap).ownBlock\/(Value.slice Dj (bl.length+1) cap').ownBlock=some W6.heap.size):
  ∃AU,Az w0 (w7.setCell (aD wb 0) (.slice Dj (bl.length+1) cap')) AU wb dt fp R2 (bl++[w1.heap.size]) c b:=by
 have s0:=hW.q.below.size;have s1:=q1.below.size;have s1':=hL1.map.top;have s3:w1.heap.size+1<=w3.heap.size:=by have:=q3.below.size;simpa using this
 have s5:W5.heap.size=w3.heap.size+1:=by rw[LJ];simp
 have s6:W6.heap.size=w3.heap.size+2:=by rw[Tv];simp[s5]
 have s7:=hg.size;have htop:=hW.top;have hhi:=hW.hi;obtain⟨w8,hw8⟩:=ex (w7.setCell (aD wb 0) (.slice Dj (bl.length+1) cap'));rw[<-hw8];have s8:w8.heap.size=w7.heap.size:=by rw[hw8];simp
 have qR:∀g,(Value.slice ao bl.length cap).ownBlock=some g->w0.w.heap.size<=g/\g<w.heap.size:=fun g hg=>hrow.lt g hg;have B8:∀k,k≠wb->w8.heap[k]?=w7.heap[k]?:=fun k hk=>by rw[hw8];exact heap_setCell_other _ (aD wb 0) k _ (by simpa using hk)
 have B7:∀k,k<W6.heap.size->(∀g,(Value.slice ao bl.length cap).ownBlock=some g->k≠g)->w7.heap[k]?=W6.heap[k]?:=fun k hk hn=>hg.block k hk (fun e=>hn k e.symm rfl);have B6:∀k,k<W5.heap.size->W6.heap[k]?=W5.heap[k]?:=fun k hk=>by rw[Tv];exact heap_alloc_old _ _ hk
 have B5:∀k,k<w3.heap.size->k≠w1.heap.size->W5.heap[k]?=w3.heap[k]?:=fun k hk hn=>by rw[LJ,heap_setCell_other _ (aD w1.heap.size 3) k _ (by simpa using hn)];exact heap_alloc_old _ _ hk
 have B3:∀k,k<w1.heap.size->w3.heap[k]?=w1.heap[k]?:=fun k hk=>(q3.below.block k (by simp;omega)).trans (heap_alloc_old _ _ hk);have BB:∀k,k<w1.heap.size->k≠wb->(∀g,(Value.slice ao bl.length cap).ownBlock=some g->k≠g)->w8.heap[k]?=w1.heap[k]?:=fun k hk h1 h2=>by rw[B8 k h1,B7 k (by omega) h2,B6 k (by omega),B5 k (by omega) (by omega),B3 k hk]
 have BW:∀k,k<w.heap.size->k≠wb->(∀g,(Value.slice ao bl.length cap).ownBlock=some g->k≠g)->w8.heap[k]?=w.heap[k]?:=fun k hk h1 h2=>(BB k (by omega) h1 h2).trans (q1.below.block k hk);have BN:∀k,w1.heap.size<=k->k<W5.heap.size->w8.heap[k]?=W5.heap[k]?:=fun k h1 h2=>by rw[B8 k (by omega),B7 k (by omega) (fun g hg e=>by have:=qR g hg;omega),B6 k h2]
 obtain⟨XG,zP⟩:=ex (vO w.heap.size w1.heap.size w3.heap.size tg bl.length);have tO:∀k,k<w.heap.size->XG k=tg k:=fun k hk=>by rw[zP];unfold vO;rw[if_pos hk]
 have tD:∀k,k<w1.heap.size->XG k=(tg.more w.heap.size (3*bl.length+3) 0) k:=fun k hk=>by
  rw[zP];unfold vO;by_cases e:k<w.heap.size
  .rw[if_pos e,Tags.AQ e]
  .rw[if_neg e,if_pos hk,Tags.Ay (by omega)]
 have tH:XG w1.heap.size=(3*bl.length+1,0):=by rw[zP];unfold vO;rw[if_neg (by omega),if_neg (by omega),if_pos rfl]
 have tL:XG w3.heap.size=(3*bl.length+1,1):=by rw[zP];unfold vO;rw[if_neg (by omega),if_neg (by omega),if_neg (by omega),if_pos rfl]
 have tN:∀k,w3.heap.size<k->XG k=(0,0):=fun k hk=>by rw[zP];unfold vO;rw[if_neg (by omega),if_neg (by omega),if_neg (by omega),if_neg (by omega)]
 have Zi:Turn (·=0) tg w XG w8:=by
  refine⟨?_,?_,?_,by omega,fun k hk _=>tO k hk,fun k hk hn=>BW k hk (fun e=>hn (by rw[e];exact hW.tw)) (fun g hg e=>hn (by rw[e];exact(hrt g hg).1))⟩
  .rw[hw8];exact(hg.os.trans (by rw[Tv,LJ];exact q3.below.os)).trans q1.below.os
  .rw[hw8];exact(hg.tape.trans (by rw[Tv,LJ];exact q3.below.tape)).trans q1.below.tape
  .rw[hw8];exact(hg.output.trans (by rw[Tv,LJ];exact q3.below.output)).trans q1.below.output
 have hv:=AZ w1 (OT w.heap.size n) 38;have hv3:=hv.kept q3;have hv4:=hv3.kept ((Q.refl w3).alloc EA.cells.toArray 49);have hv5:=hv4.set 3 (.slice (some (aD w3.heap.size 0)) 1 1);rw[<-LJ]at hv5;have hBh:w8.heap[w1.heap.size]?=W5.heap[w1.heap.size]?:=BN _ (zLK _) (by omega);have cc:∀j v,((OT w.heap.size n).set 3 (.slice (some (aD w3.heap.size 0)) 1 1))[j]?=some v->w8.cell? (aD w1.heap.size j)=some v:=fun j v hj=>(zMI (a:=(aD w1.heap.size j)) hBh).trans (hv5.cell j hj);have hlv:GX w3 [EA] (some (aD w3.heap.size 0)) 1 (w3.alloc (.cells EA.cells.toArray 49)):=Te (y:=EA) (Q.refl w3) ⟨⟨fun _=>rfl,fun i v hv=>by simp[EA,M.fresh]at hv⟩,⟨fun _=>rfl,fun i v hv=>by simp[EA,M.fresh]at hv⟩,fun _=>⟨rfl,rfl⟩,fun _=>⟨rfl,rfl⟩⟩;have zEg:Dw w8 (some (aD w3.heap.size 0)) [EA]:=by
  refine(Va hlv.all hlv.own).blocks (by simp;omega) (fun a e _ _=>?_) (fun x hx a ha=>?_)
  .injection e with e;subst e;simp only;rw[BN _ (by omega) (by omega),LJ,heap_setCell_other _ (aD w1.heap.size 3) _ _ (by simp;omega)]
  .have:x=EA:=by simpa using hx
   rw[this]at ha;rcases ha with e|e<;>cases e
 have hfr:∀j,w8.frozen? (aD w1.heap.size j)=false:=fun j=>by
  rw[zML (a:=(aD w1.heap.size j)) hBh,LJ,zMK];have e1:(w3.alloc (.cells EA.cells.toArray 49)).frozen? (aD w1.heap.size j)=w3.frozen? (aD w1.heap.size j):=zML (heap_alloc_old _ _ (by show w1.heap.size<_;omega));rw[e1,q3.below.frozen (p:=(aD w1.heap.size j)) (by simp)];simp
 have zFD:A7 w8 XG (3*bl.length+1) w1.heap.size (pT w.heap.size) (.pointer none) (some (aD w3.heap.size 0)) 1 [EA] ⟨n,false,0,0,false,false,false⟩:=
  ⟨by omega,tH,hfr,cc 0 _ rfl,cc 1 _ rfl,cc 2 _ rfl,cc 3 _ rfl,cc 4 _ rfl,cc 5 _ rfl,cc 6 _ rfl,cc 7 _ rfl,cc 8 _ rfl,cc 9 _ rfl,zEg,fun a e _=>by
   injection e with e;subst e;exact⟨by rw[tL],by show w3.heap.size≠_;omega⟩,fun x hx a ha=>by
   have:x=EA:=by simpa using hx
   rw[this]at ha;rcases ha with e|e<;>cases e⟩
 have zFG:AJ w8 XG (3*bl.length+3) w.heap.size ⟨n,[],false,0⟩ [] []:=hL1.keep (by omega) tD (fun k hk e=>BB k hk (fun e2=>by
   rw[e2,Tags.AQ htop]at e;rw[hW.tw]at e;omega) (fun g hg e2=>by
   have:=qR g hg;rw[e2,Tags.AQ this.2]at e;rw[(hrt g hg).1]at e;omega))
 have hz:∀k,k<w0.w.heap.size->w8.heap[k]?=w0.w.heap[k]?:=fun k hk=>(BW k (by omega) (by omega) (fun g hg=>by have:=qR g hg;omega)).trans (hW.q.below.block k hk);have zAr:∀g,(Value.slice Dj (bl.length+1) cap').ownBlock=some g->(XG g).1=0/\g≠wb/\(w0.ob≠none->g≠w0.fx):=fun g hg'=>by
  rcases Gy with e|e
  .rw[e]at hg';have:=qR g hg';rw[tO g this.2];exact hrt g hg'
  .rw[e]at hg';injection hg' with hg';rw[<-hg',tN _ (by omega)];exact⟨rfl,by omega,fun e=>by
    obtain⟨ob,fQ⟩:=Option.ne_none_iff_exists'.1 e;have:=(hW.ex ob fQ).2.2.2;omega⟩
 have hlen:(bl++[w1.heap.size]).length=bl.length+1:=by simp
 have rD:w7.heap[wb]?=w.heap[wb]?:=by rw[B7 wb (by omega) (fun g hg e=>(hrt g hg).2.1 e.symm),B6 wb (by omega),B5 wb (by omega) (by omega),B3 wb (by omega)];exact q1.below.block wb htop
 refine⟨XG,⟨⟨Zi.os.trans hW.q.below.os,Zi.tape.trans hW.q.below.tape,Zi.output.trans hW.q.below.output,by omega,hz⟩⟩,hW.tab,fun k hk=>by rw[tO k (by omega)];exact hW.z k hk,fun k hk=>?_,hhi,by omega,by rw[tO wb htop];exact hW.tw,fun j=>?_,?_,?_,⟨Dj,cap',?_,?_,by rw[hlen];exact zAr⟩,fun ob e=>?_,fun i h hi=>?_⟩
 .rw[hlen];have hlow:=hW.low k;rw[zP];unfold vO;split
  .rename_i e;have:=hlow e;omega
  split
  .simp only;omega
  split
  .simp only;omega
  split
  .simp only;omega
  .simp only;omega
 .rw[hw8,zMK,zML (a:=(aD wb j)) rD];exact hW.fr j
 .rw[hw8,zMH _ _ _ _ (by simp)];exact(zMI (a:=(aD wb 1)) rD).trans hW.c1
 .rw[hw8,zMH _ _ _ _ (by simp)];exact(zMI (a:=(aD wb 2)) rD).trans hW.c2
 .rw[hlen,hw8];exact zMJ _ _ _ ((zMI (a:=(aD wb 0)) rD).trans y0)
 .rw[hlen,List.map_append];exact Ai hown (fun g hg'=>B8 g (zAr g hg').2.1)
 .obtain⟨e1,e2,e3,e4⟩:=hW.ex ob e;exact⟨(BW _ e4 e3 (fun g hg=>Ne.symm ((hrt g hg).2.2 (by rw[e];simp)))).trans e1,by rw[tO _ e4];exact e2,e3,by omega⟩
 .by_cases hlt:i<bl.length
  .rw[zMA hlt]at hi;obtain⟨H,T,X,ls,k1,k2,k3,k4,k5⟩:=hW.each i h hi;exact⟨H,T,X,ls,k1.turn Zi (by omega) (by omega) (by omega),k2,k3,k4,fun e=>h1 (by omega) _ _ (k5 e)⟩
  .have hi2:=(zLI.1 hi).1;have e2:i=bl.length:=by rw[hlen]at hi2;omega
   subst e2;rw[zMB (zLK _),Nat.sub_self]at hi;simp only[zLY,zLO]at hi;subst hi;exact⟨_,⟨n,none,none,false,0⟩,none,_,⟨w.heap.size,.pointer none,_,1,[EA],[],[],rfl,zFD,zFG,rfl⟩,qP hn,zLS _,zLS _,fun e=>h0 e n⟩
theorem RZ{w0:Bas}(hW:Az w0 w tg wb dt fp R bl c b)(M7:bl.length<=1048576)(cp:Int)(hI:I64 cp)(h0:bl.length=0->∀n,R2 ⟨n,false,0,0,false,false,false⟩ none)(h1:bl.length≠0->∀H X,R H X->R2 H X):
  Calls Tryz.prog 7 #[pT wb,iT cp] w fun e w'=>e=.returned (.bool true)/\∃AU h,Az w0 w' AU wb dt fp R2 (bl++[h]) c b:=by
 have hn:=D9 cp (n:=1048577) (by omega);have PK:Hid _:=fun(W:World)=>Fh cp hI 1048577 (by omega) W;obtain⟨n,hne⟩:=xe (DX cp 1048577);rw[hne]at PK hn;have DN:=hU (QZ n (by omega) tg (3*bl.length+3) w);have FR:Hid _:=fun(W:World)=>jV W;obtain⟨ao,cap,y0,hrow,hrt⟩:=hW.row;have fw:=hW.fr 0;have HW:=h_ hW;clear hW;go_in;go_wp2_with fail;apply(PK.out _).mono;rintro e wp⟨rfl,hwp⟩;have hwq:=hwp.symm;clear hwp;subst hwq;clear PK;go_wp2_with fail;apply(DN.out ()).mono;rintro e w1⟨rfl,hL1,q1⟩;clear DN;go_wp2_with fail;apply(FR.out _).mono;rintro e w2⟨rfl,q2⟩;go_wp2_with fail;apply(FR.out _).mono;rintro e w3⟨rfl,q3⟩;clear FR;have og:=q2.trans q3;have hv3:=((AZ w1 (OT w.heap.size n) 38).kept og).kept ((Q.refl w3).alloc EA.cells.toArray 49);have hc3:=hv3.cell 3 rfl;have hf3:=hv3.free 3 rfl;simp only[EA,LV.cells,Gh,M.fresh,zLW]at hc3 hf3;obtain⟨W5,LJ⟩:=ex ((w3.alloc (.cells #[nS,iT (-1),nS,iT (-1),.bool false,.bool false,.bool false] 49)).setCell (aD w1.heap.size 3) (.slice (some (aD w3.heap.size 0)) 1 1));obtain⟨W6,Tv⟩:=ex (W5.alloc (.cells #[OH w1.heap.size] 39));have s1:=q1.below.size;have s1':=hL1.map.top;have s3:w1.heap.size+1<=w3.heap.size:=by have:=og.below.size;simpa using this
 have htop:=HW.out.top;have B5:∀k,k<w.heap.size->W5.heap[k]?=w.heap[k]?:=fun k hk=>by
  rw[LJ,heap_setCell_other _ (aD w1.heap.size 3) k _ (by simp;omega),heap_alloc_old _ _ (by omega),og.below.block k (by simp;omega),heap_alloc_old _ _ (by omega)];exact q1.below.block k hk
 have s5:W5.heap.size=w3.heap.size+1:=by rw[LJ];simp
 have B6:∀k,k<w.heap.size->W6.heap[k]?=w.heap[k]?:=fun k hk=>by rw[Tv,heap_alloc_old _ _ (by omega)];exact B5 k hk
 have y5:W5.cell? (aD wb 0)=some (.slice ao bl.length cap):=(zMI (a:=(aD wb 0)) (B5 wb htop)).trans y0;have kC:W6.ownsRow w0.w.heap.size 39 1 (.slice ao bl.length cap) bl.length (bl.map OH):=Ai hrow (fun g hg=>B6 g (hrow.lt g hg).2);obtain⟨i0,hi,hz0,hz1,hz2⟩:=info_parts jq;have u1:∀j u,[OH w1.heap.size][j]?=some u->W6.cell? (((aD W5.heap.size 0):Addr).add j)=some u:=fun j u hu=>by
  cases j with
  |zero=>simp at hu;subst hu;rw[Tv];simp[Addr.add]
  |succ j=>simp at hu
 have hone:∀u∈[OH w1.heap.size],u.oneCell'=true:=fun u hu=>by rw[List.mem_singleton.1 hu];rfl
 obtain⟨v',w7,hrun,hown',hgrow,_⟩:=run_append_own (P:=Tryz.prog) W6 w0.w.heap.size 26 26 39 i0 (.pointer none) 1 8 Tryz.underlying26 hi hz0 hz1 hz2 rfl (by decide) _ _ _ kC (aD W5.heap.size 0) 1 1 [OH w1.heap.size] rfl u1 hone (by unfold maxLen;omega) (by omega) (by have:=HW.out.q.below.size;rw[Tv];simp;omega);have Gy:=BQ (ty:=26) Tryz.underlying26 hi hz0 hz1 hz2 kC (m:=1) (c:=1) rfl u1 hone (by decide) (by unfold maxLen;omega) (by omega) hrun;obtain⟨Dj,cap',hv⟩:=Ac hown';rw[hv]at hown' Gy hrun;have y7:w7.cell? (aD wb 0)=some (.slice ao bl.length cap):=DC hgrow ((zMI (a:=(aD wb 0)) (B6 wb htop)).trans y0) (fun g hg=>(hrt g hg).2.1);have f7:w7.frozen? (aD wb 0)=false:=by
  rw[zML (a:=(aD wb 0)) (hgrow.block wb (by rw[Tv];simp;omega) (fun e=>(hrt wb e.symm).2.1 rfl)),zML (a:=(aD wb 0)) (B6 wb htop)];exact fw
 have HE:Hid (∃AU h,Az w0 (w7.setCell (aD wb 0) (.slice Dj (bl.length+1) cap')) AU wb dt fp R2 (bl++[h]) c b):=by
  obtain⟨AU,hx⟩:=pR HW.out (by omega) h0 h1 y0 hrow hrt hL1 q1 og LJ Tv hown' hgrow Gy;exact⟨AU,_,hx⟩
 rw[Tv]at hrun;clear hv3 hL1 q1 q2 q3 og HW hrow hrt hown' hgrow Gy hv B5 B6 u1 hone kC y0 fw s1 s1' s3 s5 htop;go_upto_region 7 with fail
 rw[<-LJ];clear LJ;go_wp2_with(at_builtin;refine Lib.wpList_append_run _ rfl _ _ _ _ rfl _ _ rfl rfl _ _ hrun ?_);clear hrun;go_wp2;go_ret;exact⟨rfl,HE.out⟩
theorem aA{w0:Bas}(hW:Az w0 w tg wb dt fp R bl c b)(p:SOp)(ko:Option Addr)(kc:Nat)(hk:p.kind≠1/\(p.kind<2\/11<p.kind)):
  Calls Tryz.prog 8 #[pT wb,.agg (p.cells ko kc)] w fun e w'=>LP w0 wb dt fp (fun _ _=>True) bl (c+2) b e w':=by
 have qa:Q w (w.alloc (.cells (p.cells ko kc) 32)):=(Q.refl w).alloc _ _;have HX:Hid (LP w0 wb dt fp (fun _ _=>True) bl (c+2) b (.returned (.bool true)) (w.alloc (.cells (p.cells ko kc) 32))):=⟨rfl,_,hW.keep qa (by omega) (by omega) (fun _ _ _=>trivial)⟩;obtain⟨kind,dk,key,stamp,value,ks,a,b'⟩:=p;simp only at hk;have e1:(kind==1)=false:=by rw[zM9];exact hk.1
 have n1:¬kind=1:=hk.1;clear hW qa;by_cases h2:kind<2
 .have d1:decide (kind<2)=true:=by rw[decide_eq_true_iff];exact h2
  clear hk;go_in;go_wp2;go_ret;exact HX.out
 .have d1:decide (kind<2)=false:=by rw[decide_eq_false_iff_not];exact h2
  have h3:11<kind:=hk.2.elim (fun e=>absurd e h2) id;have d2:decide (11<kind)=true:=by rw[decide_eq_true_iff];exact h3
  clear hk;go_in;go_wp2;go_ret;exact HX.out
def mV(w0:Bas)(wb:Nat)(dt fp:Bool)(bl:List Nat)(c b:Nat)(e:Ending)(w':World):Prop:=
 e=.returned (.bool true)/\∃AU bl',Az w0 w' AU wb dt fp (fun _ _=>True) bl' c b/\0<bl'.length/\bl'.length<=bl.length+1
theorem aC{w0:Bas}(hW:Az w0 w tg wb dt fp (fun _ _=>True) bl c b)(M7:bl.length<=1048576)(p:SOp)(ko:Option Addr)(kc:Nat)(hp:KZ p)(hk:p.kind=1):
  Calls Tryz.prog 8 #[pT wb,.agg (p.cells ko kc)] w fun e w'=>mV w0 wb dt fp bl c b e w':=by
 have qa:Q w (w.alloc (.cells (p.cells ko kc) 32)):=(Q.refl w).alloc _ _;have MD:=hU (RZ (R2:=fun _ _=>True) (hW.keep qa (zLK c) (zLK b) (fun _ _ e=>e)) M7 p.a hp.a (fun _ _=>trivial) (fun _ _ _ _=>trivial));obtain⟨kind,dk,key,stamp,value,ks,a,b'⟩:=p;simp only at hk;subst hk;clear hW qa hp;go_in;go_wp2_with fail;apply(MD.out ()).mono;rintro e w2⟨rfl,AU,h,hx⟩;have HX:Hid (mV w0 wb dt fp bl c b (.returned (.bool true)) w2):=⟨rfl,AU,bl++[h],hx,by simp,by simp⟩;clear hx MD;go_wp2;go_ret;exact HX.out
theorem mV.of{w0:Bas}{e:Ending}(hbl:0<bl.length)(h:LP w0 wb dt fp (fun _ _=>True) bl c b e w')(hc:c<=c')(hb:b<=b'):mV w0 wb dt fp bl c' b' e w':=by
 obtain⟨he,AU,hx⟩:=h;exact⟨he,_,bl,hx.keep (Q.refl _) hc hb (fun _ _ e=>e),hbl,by omega⟩
theorem Z9{w0:Bas}(hW:Az w0 w tg wb dt fp (fun _ _=>True) bl c b)(hbl:0<bl.length)(M7:bl.length<=1048576)(hc:c<=524288)(hb:b<=2097152)(p:SOp)(ko:Option Addr)(kc:Nat)(hp:KZ p)(hks:NQ w0.w p.ks ko):
  Calls Tryz.prog 8 #[pT wb,.agg (p.cells ko kc)] w fun e w'=>mV w0 wb dt fp bl (c+2) (b+(p.key.size+p.value.size)) e w':=by
 by_cases k1:p.kind=1
 .apply(aC hW M7 p ko kc hp k1).mono;rintro e w'⟨he,AU,bl',hx,g1,g2⟩;exact⟨he,_,bl',hx.keep (Q.refl _) (by omega) (by omega) (fun _ _ e=>e),g1,g2⟩
 by_cases k2:p.kind<2\/11<p.kind
 .exact(aA hW p ko kc ⟨k1,k2⟩).mono (fun e w' hx=>mV.of hbl hx (zLK _) (by omega))
 by_cases k3:p.kind=2
 .exact(RY (R2:=fun _ _=>True) hW hbl M7 hc hb p ko kc hp k3 (fun _ _ _ _ _ _=>trivial) (fun _ _ _=>trivial)).mono (fun e w' hx=>mV.of hbl hx (zLK _) (by omega))
 by_cases k4:p.kind=9
 .exact(gQ hW hbl M7 hc hb p ko kc hp k4).mono (fun e w' hx=>mV.of hbl hx (zLK _) (by omega))
 by_cases k5:p.kind=10
 .exact(XU hW hbl M7 hc hb p ko kc hp k5 hks).mono (fun e w' hx=>mV.of hbl hx (zLK _) (by omega))
 by_cases k6:p.kind=11
 .exact(aB hW hbl M7 hc hb p ko kc hp k6).mono (fun e w' hx=>mV.of hbl hx (zLK _) (by omega))
 .exact(Oh (R2:=fun _ _=>True) hW hbl M7 hc hb p ko kc hp (by omega) (Or.inr (fun _ _=>trivial))).mono (fun e w' hx=>mV.of hbl hx (zLK _) (zLK _))
end Go.Proofs.YtekdenkllipehaaGreatDoor
