import Derived.Test.YtekdenkllipehabGreatDoorA10
import Derived.Test.YtekdenkllipehabGreatDoorRows
import Derived.Laws.OwnMore
import Derived.Deep.QuietTactic
import Derived.BigQuiet
import Derived.Deep.DeepCutAuto
import Derived.Deep.RegionWith
import Derived.Laws.Cover1
import Derived.Laws.IdiomStrings
set_option maxRecDepth 100000
set_option maxHeartbeats 8000000
namespace Go.Proofs.YtekdenkllipehabGreatDoor
open Go.RowKit
variable {D:M.Dsk} {bc d i id j k n o p u x:Nat} {bo:Option Addr} {e:TypeId} {f:M.Fil} {ids l ps:List Nat} {v:Value} {w w':World} {xs:List Value}
def YB (l:List UInt8):List Value:=l.map fun b=>.int .u8 (b.toNat:Int)
def yP (ps:List Nat):List Value:=ps.map fun p=>.pointer (some ⟨p,0,none⟩)
abbrev Tags:=Nat→Nat × Nat
structure Only (o:Nat) (tg:Tags) (w w':World):Prop where
 os:w'.os=w.os
 tape:w'.tape=w.tape
 output:w'.output=w.output
 size:w.heap.size≤w'.heap.size
 block:∀ k,k<w.heap.size→(tg k).1≠o→w'.heap[k]?=w.heap[k]?
theorem Only.refl (o:Nat) (tg:Tags) (w:World):Only o tg w w:=⟨rfl,rfl,rfl,zR9 _,fun _ _ _=>rfl⟩
theorem Only.yT {tg:Tags} (q:Q w w'):Only o tg w w':=⟨q.below.os,q.below.tape,q.below.output,q.below.size,fun k hk _=>q.below.block k hk⟩
theorem zO {base:Nat} {size:Nat} (h:w.ownsRow base e size v n xs) (hb:∀ g,v.ownBlock=some g→w'.heap[g]?=w.heap[g]?):w'.ownsRow base e size v n xs:=by
 refine ⟨h.1,?_⟩;rcases h.2 with h2|⟨g,cap,cur,hv,hg,hh,r⟩
 ·exact Or.inl h2
 ·exact Or.inr ⟨g,cap,cur,hv,hg,by rw [hb g (by rw [hv];rfl)];exact hh,r⟩
theorem Only.trans {o:Nat} {tg:Tags} {a b c:World} (h:Only o tg a b) (k:Only o tg b c):Only o tg a c:=
 ⟨k.os.trans h.os,k.tape.trans h.tape,k.output.trans h.output,zRK h.size k.size,fun i hi hn=>(k.block i (zR8 hi h.size) hn).trans (h.block i hi hn)⟩
theorem zAA {tg:Tags} (h:Only o tg w w') (ht:∀ k,k<w.heap.size→k=d→(tg k).1=o) (j:Nat) (v:Value):Only o tg w (w'.setCell ⟨d,j,none⟩ v):=
 ⟨h.os,h.tape,h.output,by simpa using h.size,fun k hk hn=>(heap_setCell_other w' ⟨d,j,none⟩ k v (fun e=>hn (ht k hk (by simpa using e)))).trans (h.block k hk hn)⟩
def Tags.more (tg:Tags) (n o u:Nat):Tags:=fun k=>if k<n then tg k else (o,u)
theorem Tags.zD {tg:Tags} (h:k<n):tg.more n o u k=tg k:=by simp [Tags.more,h]
theorem Tags.zV {tg:Tags} (h:n≤k):tg.more n o u k=(o,u):=by simp [Tags.more,Nat.not_lt.2 h]
theorem zCn {α:Type} {l:List α} {a:α} (h:(l.eraseIdx i)[j]?=some a):l[if j<i then j else j+1]?=some a:=by
 rw [List.getElem?_eraseIdx] at h;by_cases hj:j<i
 ·rw [if_pos hj] at h ⊢;exact h
 ·rw [if_neg hj] at h ⊢;exact h
def zJ {α:Type} (l:List α) (j:Nat) (x:α):List α:=l.take j++x::l.drop j
theorem Yl {α:Type} {l:List α} {x a:α} (hj:j≤l.length) (h:(zJ l j x)[i]?=some a):(i=j∧a=x)∨(i≠j∧l[if i<j then i else i-1]?=some a):=by
 unfold zJ at h;have hl:(l.take j).length=j:=by simp;omega
 rcases Nat.lt_trichotomy i j with hij|rfl|hij
 ·right;rw [zRz (by omega),List.getElem?_take_of_lt hij] at h;exact ⟨by omega,by rw [if_pos hij];exact h⟩
 ·left;rw [zS0 (by omega),hl,Nat.sub_self] at h;simp at h;exact ⟨rfl,h.symm⟩
 ·right;rw [zS0 (by omega),hl] at h;obtain ⟨m,hm⟩:∃ m,i-j=m+1:=⟨i-j-1,by omega⟩;rw [hm,zRO,zRg] at h;refine ⟨by omega,?_⟩;rw [if_neg (by omega),show i-1=j+m by omega];exact h
theorem yB {α:Type} {l:List α} {x:α} (hj:j≤l.length):(zJ l j x).length=l.length+1:=by simp [zJ];omega
theorem zEJ (h:l.Nodup) (hx:x∉l):(zJ l j x).Nodup:=by
 have hp:(zJ l j x).Perm (x::l):=by
  unfold zJ;refine List.perm_middle.trans ?_;rw [zRf]
 rw [hp.nodup_iff];exact List.nodup_cons.2 ⟨hx,h⟩
theorem Z4 {α:Type} {l:List α} (hj:j≤l.length) (x:α):(zJ l j x)[j]?=some x:=by
 unfold zJ;have hl:(l.take j).length=j:=by simp;omega
 rw [zS0 (by omega),hl,Nat.sub_self];rfl
theorem zMQ {α:Type} {l:List α} (hj:j≤l.length) (x y:α):(zJ l j x).set j y=zJ l j y:=by
 unfold zJ;have hl:(l.take j).length=j:=by simp;omega
 rw [List.set_append_right _ _ (by omega),hl,Nat.sub_self];rfl
theorem zNy (l:List Nat):∃ n,n∉l:=by
 suffices h:∃ n,∀ x∈l,x<n by
  obtain ⟨n,hn⟩:=h;exact ⟨n,fun hm=>zRV _ (hn n hm)⟩
 induction l with
 | nil=>exact ⟨0,fun x hx=>by cases hx⟩
 | cons a l ih =>
  obtain ⟨n,hn⟩:=ih;refine ⟨n+a+1,fun x hx=>?_⟩;rcases zS3.1 hx with rfl|hx
  ·omega
  ·have:=hn x hx;omega
theorem zIo (h:l.Nodup) (hx:l[i]?=some x):x∉l.eraseIdx i:=by
 intro hm;obtain ⟨hi,rfl⟩:=zR7.1 hx;obtain ⟨j,hj,hne,e⟩:=List.mem_eraseIdx_iff_getElem.1 hm;have h1:=zRs.1 h;rcases Nat.lt_or_gt_of_ne hne with hlt|hlt
 ·exact h1 j i hj hi hlt e
 ·exact h1 i j hi hj hlt e.symm
theorem ZG {P:Program} {base:Nat} {t ty:TypeId} {i:TypeInfo} {z:Value} {size bytes:Nat} (ht:P.underlying t=some (.slice e)) (hi:P.info? e=some i) (hz:i.zero=some z)
  (hsize:i.size=size) (hby:i.bytes=bytes)
  (hown:w.ownsRow base e size v n xs)
  {a:Addr} {m c:Nat} {news:List Value} (hl:news.length=m*size) (hnews:∀ j u,news[j]?=some u→w.cell? (a.add j)=some u) (h1:∀ u∈news,u.oneCell'=true)
  (hm:0<m) (h63:n+m≤maxLen) (hbytes:(n+m)*bytes≤140737488355328) {v':Value} 
  (hrun:(Builtin.append_ #[t,t] ty #[v,.slice (some a) m c]).run P w=.ok v' w') :
  v'.ownBlock=v.ownBlock∨v'.ownBlock=some w.heap.size:=by
 subst hsize;subst hby;have hsmall:n+m≤9223372036854775807:=by simp only [maxLen] at h63;omega
 rcases hown.2 with ⟨rfl,rfl⟩|⟨g,cap,cur,rfl,hbg,hg,hnc,hcm,hcs,htake⟩
 ·have hx:xs=[]:=zRC (by simpa using hown.1);subst hx;have hr:=run_append_nil (P:=P) w t ty e i z ht hi hz a m c news hl hnews (by omega) (by omega) (by have hb:=hbytes;simp only [zRZ] at hb;omega);rw [hr] at hrun;injection hrun with hv _;subst hv;exact Or.inr rfl
 ·by_cases hroom:n+m≤cap
  ·have hfit:n*i.size+news.length≤cur.size:=by rw [hl,hcs,←Nat.add_mul];exact Nat.mul_le_mul_right _ hroom
   have hr:=run_append_room (P:=P) w t ty e i ht hi g n cap cur hg a m c news hl hnews h1 hroom hfit;rw [hr] at hrun;injection hrun with hv _;subst hv;exact Or.inl rfl
  ·have holds:∀ j u,xs[j]?=some u→w.cell? ((⟨g,0,none⟩:Addr).add j)=some u:=hown.cells (g:=g) rfl;have hr:=run_append_grow (P:=P) w t ty e i z ht hi hz ⟨g,0,none⟩ n cap xs hown.1 holds a m c news hl hnews (by omega) (by omega) (growslice_fits (by omega) hbytes);rw [hr] at hrun;injection hrun with hv _;subst hv;exact Or.inr rfl
theorem zOk:(Tryz.prog.info? 5).map (fun i=>(i.zero,i.size,i.bytes))=some (some (.int .u8 0),1,1):=by kernel_rfl
theorem zNv:(Tryz.prog.info? 9).map (fun i=>(i.zero,i.size,i.bytes))=some (some (.string ⟨#[]⟩),1,16):=by kernel_rfl
def YM (P:List ByteArray):List Value:=P.map Value.string
structure zBM (w:World) (P:List ByteArray) (ao:Option Addr) (cap:Nat) (wr:World):Prop where
 below:Below w.heap.size w wr
 own:wr.ownsRow w.heap.size 9 1 (.slice ao P.length cap) P.length (YM P)
theorem zBM.start (w:World):zBM w [] none 0 w:=⟨Below.refl _ _,World.ownsRow_nil _ _ _ _⟩
theorem zBM.push {wr:World} {P:List ByteArray} {ao ao':Option Addr} {cap cap':Nat} (h:zBM w P ao cap wr) (p:ByteArray) (o:Obj)
  (hg:(wr.alloc o).grownBy w' (Value.slice ao P.length cap).ownBlock)
  (ho:w'.ownsRow w.heap.size 9 1 (.slice ao' (P.length+1) cap') (P.length+1) (YM P++[.string p])):zBM w (P++[p]) ao' cap' w':=by
 have hs:=h.below.size;refine ⟨(h.below.alloc hs _).grown hg (by simp;omega) (Ye h.own),?_⟩;have:YM (P++[p])=YM P++[.string p]:=by simp [YM]
 rw [this,zRA];exact ho
theorem Zg {tg:Tags} {a b:Nat} (h:tg k=(o,a)) (hn:a≠b):tg k≠(o,b):=fun e=>hn (by rw [h] at e;injection e)
structure MapAt (w:World) (tg:Tags) (o d:Nat) (names:List ByteArray) (ps:List Nat):Prop where
 fr:∀ j,w.frozen? ⟨d,j,none⟩=false
 td:tg d=(o,0)
 top:d<w.heap.size
 keys:∃ ao cap,w.cell? ⟨d,1,none⟩=some (.slice ao names.length cap)∧w.ownsRow 0 9 1 (.slice ao names.length cap) names.length (zG names)∧∀ g,(Value.slice ao names.length cap).ownBlock=some g→tg g=(o,1)
 vals:∃ ao cap,w.cell? ⟨d,2,none⟩=some (.slice ao names.length cap)∧w.ownsRow 0 87 1 (.slice ao names.length cap) names.length (yP ps)∧∀ g,(Value.slice ao names.length cap).ownBlock=some g→tg g=(o,2)
 len:ps.length=names.length
structure zo (w:World) (tg:Tags) (o p id:Nat) (f:M.Fil) (bo:Option Addr) (bc:Nat):Prop where
 c0:w.cell? ⟨p,0,none⟩=some (.slice bo f.bytes.length bc)
 c1:w.cell? ⟨p,1,none⟩=some (.int .i64 (f.synced:Int))
 fr:∀ j,w.frozen? ⟨p,j,none⟩=false
 own:w.ownsRow 0 5 1 (.slice bo f.bytes.length bc) f.bytes.length (YB f.bytes)
 tp:tg p=(o,3+2*id)
 tb:∀ g,(Value.slice bo f.bytes.length bc).ownBlock=some g→tg g=(o,4+2*id)
 top:p<w.heap.size
def zR (fs:List M.Fil):List ByteArray:=fs.map fun f=>f.name
@[simp] theorem zS (fs:List M.Fil):(zR fs).length=fs.length:=by simp [zR]
structure zC (w:World) (tg:Tags) (o d:Nat) (D:M.Dsk) (ids ps:List Nat):Prop where
 map:MapAt w tg o d (zR D.files) ps
 c0:w.cell? ⟨d,0,none⟩=some (.int .i64 (D.cap:Int))
 c3:w.cell? ⟨d,3,none⟩=some (.bool D.dead)
 c4:w.cell? ⟨d,4,none⟩=some (.int .i64 (D.fuse:Int))
 nodup:ids.Nodup
 lenI:ids.length=D.files.length
 file:∀ (i p id:Nat) (f:M.Fil),ps[i]?=some p→ids[i]?=some id→D.files[i]?=some f→∃ bo bc,zo w tg o p id f bo bc
theorem MapAt.keep {tg tg':Tags} {names:List ByteArray} (h:MapAt w tg o d names ps) (hs:w.heap.size≤w'.heap.size) (ht:∀ k,k<w.heap.size→tg' k=tg k)
  (hb:∀ k,k<w.heap.size→(tg k=(o,0)∨tg k=(o,1)∨tg k=(o,2))→w'.heap[k]?=w.heap[k]?):MapAt w' tg' o d names ps:=by
 have hd:w'.heap[d]?=w.heap[d]?:=hb d h.top (Or.inl h.td);obtain ⟨a1,k1,r1,r2,r3⟩:=h.keys;obtain ⟨a2,k2,s1,s2,s3⟩:=h.vals;exact ⟨fun j=>(zS9 (a:=⟨d,j,none⟩) hd).trans (h.fr j),(ht d h.top).trans h.td,zR8 h.top hs,
  ⟨a1,k1,(zS6 (a:=⟨d,1,none⟩) hd).trans r1,zO r2 (fun g hg=>hb g (r2.lt g hg).2 (Or.inr (Or.inl (r3 g hg)))),fun g hg=>(ht g (r2.lt g hg).2).trans (r3 g hg)⟩,
  ⟨a2,k2,(zS6 (a:=⟨d,2,none⟩) hd).trans s1,zO s2 (fun g hg=>hb g (s2.lt g hg).2 (Or.inr (Or.inr (s3 g hg)))),fun g hg=>(ht g (s2.lt g hg).2).trans (s3 g hg)⟩,h.len⟩
theorem zo.keep {tg tg':Tags} (h:zo w tg o p id f bo bc) (hs:w.heap.size≤w'.heap.size) (ht:∀ k,k<w.heap.size→tg' k=tg k)
  (hb:∀ k,k<w.heap.size→tg k=(o,3+2*id)∨tg k=(o,4+2*id)→w'.heap[k]?=w.heap[k]?):zo w' tg' o p id f bo bc:=by
 have hp:w'.heap[p]?=w.heap[p]?:=hb p h.top (Or.inl h.tp);exact ⟨(zS6 (a:=⟨p,0,none⟩) hp).trans h.c0,(zS6 (a:=⟨p,1,none⟩) hp).trans h.c1,fun j=>(zS9 (a:=⟨p,j,none⟩) hp).trans (h.fr j),zO h.own (fun g hg=>hb g (h.own.lt g hg).2 (Or.inr (h.tb g hg))),(ht p h.top).trans h.tp,fun g hg=>(ht g (h.own.lt g hg).2).trans (h.tb g hg),zR8 h.top hs⟩
theorem zC.keep {w w':World} {tg tg':Tags} {o d:Nat} {D:M.Dsk} {ids ps:List Nat} (h:zC w tg o d D ids ps) (hs:w.heap.size≤w'.heap.size) (ht:∀ k,k<w.heap.size→tg' k=tg k)
  (hb:∀ k,k<w.heap.size→(tg k).1=o→w'.heap[k]?=w.heap[k]?):zC w' tg' o d D ids ps:=by
 have hd:w'.heap[d]?=w.heap[d]?:=hb d h.map.top (by rw [h.map.td]);refine ⟨h.map.keep hs ht (fun k hk e=>hb k hk (by rcases e with e | e | e<;>rw [e])),(zS6 (a:=⟨d,0,none⟩) hd).trans h.c0,(zS6 (a:=⟨d,3,none⟩) hd).trans h.c3,(zS6 (a:=⟨d,4,none⟩) hd).trans h.c4,h.nodup,h.lenI,fun i p id f h1 h2 h3=>?_⟩;obtain ⟨bo,bc,hF⟩:=h.file i p id f h1 h2 h3;exact ⟨bo,bc,hF.keep hs ht (fun k hk e=>hb k hk (by rcases e with e | e<;>rw [e]))⟩
theorem zC.kept {tg:Tags} (h:zC w tg o d D ids ps) (q:Q w w'):zC w' tg o d D ids ps:=
 h.keep q.below.size (fun _ _=>rfl) (fun k hk _=>q.below.block k hk)
theorem MapAt.kept {tg:Tags} {names:List ByteArray} (h:MapAt w tg o d names ps) (q:Q w w'):MapAt w' tg o d names ps:=
 h.keep q.below.size (fun _ _=>rfl) (fun k hk _=>q.below.block k hk)
structure zBN (tg:Tags) (o d:Nat) (w w':World):Prop where
 os:w'.os=w.os
 tape:w'.tape=w.tape
 output:w'.output=w.output
 size:w.heap.size≤w'.heap.size
 block:∀ k,k<w.heap.size→tg k≠(o,0)→tg k≠(o,1)→tg k≠(o,2)→w'.heap[k]?=w.heap[k]?
 c0:w'.cell? ⟨d,0,none⟩=w.cell? ⟨d,0,none⟩
 c3:w'.cell? ⟨d,3,none⟩=w.cell? ⟨d,3,none⟩
 c4:w'.cell? ⟨d,4,none⟩=w.cell? ⟨d,4,none⟩
theorem zBN.only {tg:Tags} (h:zBN tg o d w w'):Only o tg w w':=⟨h.os,h.tape,h.output,h.size,fun k hk hn=>h.block k hk (fun e=>hn (by rw [e])) (fun e=>hn (by rw [e])) (fun e=>hn (by rw [e]))⟩
theorem zC.zP8 {tg tg':Tags} (h:zC w tg o d D ids ps) (ho:zBN tg o d w w') (ht:∀ k,k<w.heap.size→tg' k=tg k) {ps' ids':List Nat} {files':List M.Fil}
  (hm:MapAt w' tg' o d (zR files') ps') (hn:ids'.Nodup) (hl:ids'.length=files'.length)
  (hfile:∀ (i p id:Nat) (f:M.Fil),ps'[i]?=some p→ids'[i]?=some id→files'[i]?=some f→∃ bo bc,zo w tg o p id f bo bc):zC w' tg' o d ⟨D.cap,files',D.dead,D.fuse⟩ ids' ps':=by
 refine ⟨hm,ho.c0.trans h.c0,ho.c3.trans h.c3,ho.c4.trans h.c4,hn,hl,fun i p id f h1 h2 h3=>?_⟩;obtain ⟨bo,bc,hF⟩:=hfile i p id f h1 h2 h3;exact ⟨bo,bc,hF.keep ho.size ht (fun k hk e=>ho.block k hk (by rcases e with e | e<;>exact Zg e (by omega)) (by rcases e with e | e<;>exact Zg e (by omega)) (by rcases e with e | e<;>exact Zg e (by omega)))⟩
theorem zC.header {tg:Tags} (h:zC w tg o d D ids ps) (hg:w.grownBy w' (some d)) (hfr:∀ j,w'.frozen? ⟨d,j,none⟩=false)
  (h1:w'.cell? ⟨d,1,none⟩=w.cell? ⟨d,1,none⟩) (h2:w'.cell? ⟨d,2,none⟩=w.cell? ⟨d,2,none⟩) (dead:Bool) (fuse:Nat) (k0:w'.cell? ⟨d,0,none⟩=some (.int .i64 (D.cap:Int))) (k3:w'.cell? ⟨d,3,none⟩=some (.bool dead)) (k4:w'.cell? ⟨d,4,none⟩=some (.int .i64 (fuse:Int))) :
  zC w' tg o d ⟨D.cap,D.files,dead,fuse⟩ ids ps:=by
 have hne:∀ k,k<w.heap.size→tg k≠(o,0)→w'.heap[k]?=w.heap[k]?:=fun k hk ht=>hg.block k hk (fun e=>ht (by simp at e;rw [e];exact h.map.td));obtain ⟨a1,q1,r1,r2,r3⟩:=h.map.keys;obtain ⟨a2,q2,s1,s2,s3⟩:=h.map.vals;refine ⟨⟨hfr,h.map.td,zR8 h.map.top hg.size,⟨a1,q1,h1.trans r1,zO r2 (fun g hgb=>hne g (r2.lt g hgb).2 (Zg (r3 g hgb) (by omega))),r3⟩,⟨a2,q2,h2.trans s1,zO s2 (fun g hgb=>hne g (s2.lt g hgb).2 (Zg (s3 g hgb) (by omega))),s3⟩,h.map.len⟩,k0,k3,k4,h.nodup,h.lenI,fun i p id f e1 e2 e3=>?_⟩;obtain ⟨bo,bc,hF⟩:=h.file i p id f e1 e2 e3;exact ⟨bo,bc,hF.keep hg.size (fun _ _=>rfl) (fun k hk ho=>hne k hk (by rcases ho with e | e<;>exact Zg e (by omega)))⟩
theorem zMB (h:ids.Nodup) (hi:ids[i]?=some x) (hj:ids[j]?=some x):i=j:=by
 obtain ⟨l1,e1⟩:=zR7.1 hi;obtain ⟨l2,e2⟩:=zR7.1 hj;exact (List.getElem_inj h).1 (e1.trans e2.symm)
theorem zC.turn {tg tg':Tags} (h:zC w tg o d D ids ps) (hp:ps[i]?=some p) (hid:ids[i]?=some id) (hf:D.files[i]?=some f) (hs:w.heap.size≤w'.heap.size) (ht:∀ k,k<w.heap.size→tg' k=tg k)
  (hb:∀ k,k<w.heap.size→tg k≠(o,3+2*id)→tg k≠(o,4+2*id)→w'.heap[k]?=w.heap[k]?) (f':M.Fil) (hn:f'.name=f.name) (hF:zo w' tg' o p id f' bo bc) :
  zC w' tg' o d ⟨D.cap,D.files.set i f',D.dead,D.fuse⟩ ids ps:=by
 have hd:w'.heap[d]?=w.heap[d]?:=hb d h.map.top (Zg h.map.td (by omega)) (Zg h.map.td (by omega));have hnm:zR (D.files.set i f')=zR D.files:=by
  unfold zR;rw [List.map_set];obtain ⟨hi,he⟩:=zR7.1 hf;apply List.ext_getElem (by simp);intro n h1 h2;rw [List.getElem_set];split
  ·rename_i e;subst e;rw [List.getElem_map,he,hn]
  ·rfl
 refine ⟨by rw [hnm];exact h.map.keep hs ht (fun k hk e=>hb k hk (by rcases e with e | e | e<;>exact Zg e (by omega)) (by rcases e with e | e | e<;>exact Zg e (by omega))),(zS6 (a:=⟨d,0,none⟩) hd).trans h.c0,(zS6 (a:=⟨d,3,none⟩) hd).trans h.c3,(zS6 (a:=⟨d,4,none⟩) hd).trans h.c4,h.nodup,by simpa using h.lenI,fun j p' id' g hp' hi' hg=>?_⟩;by_cases hj:j=i
 ·subst hj;rw [hp] at hp';rw [hid] at hi';obtain rfl:=Option.some.inj hp';obtain rfl:=Option.some.inj hi';have hl:j<D.files.length:=by have:=(zR7.1 hg).1;simpa using this
  simp only [List.getElem?_set_self hl,zRD] at hg;subst hg;exact ⟨bo,bc,hF⟩
 ·simp only at hg;rw [List.getElem?_set_ne (Ne.symm hj)] at hg;obtain ⟨bo',bc',hF'⟩:=h.file j p' id' g hp' hi' hg;have hne:id'≠id:=fun e=>by
   subst e;exact hj (zMB h.nodup hi' hid)
  exact ⟨bo',bc',hF'.keep hs ht (fun k hk ho=>hb k hk (by rcases ho with e | e<;>exact Zg e (by omega)) (by rcases ho with e | e<;>exact Zg e (by omega)))⟩
theorem MapAt.at {tg:Tags} {names:List ByteArray} (h:MapAt w tg o d names ps) (hi:i<names.length) :
  ∃ g cap gv capv p,w.cell? ⟨d,1,none⟩=some (.slice (some ⟨g,0,none⟩) names.length cap)∧w.cell? ⟨d,2,none⟩=some (.slice (some ⟨gv,0,none⟩) names.length capv)∧tg g=(o,1)∧tg gv=(o,2)∧g<w.heap.size∧gv<w.heap.size∧ps[i]?=some p ∧
   (∀ j nm,names[j]?=some nm→w.cell? ⟨g,j,none⟩=some (.string nm))∧(∀ j q,ps[j]?=some q→w.cell? ⟨gv,j,none⟩=some (.pointer (some ⟨q,0,none⟩))):=by
 obtain ⟨a1,k1,r1,r2,r3⟩:=h.keys;obtain ⟨a2,k2,s1,s2,s3⟩:=h.vals;obtain ⟨p,hp⟩:∃ p,ps[i]?=some p:=⟨_,zR6 (by rw [h.len];exact hi)⟩;rcases r2.2 with ⟨_,h0⟩|⟨g,c,cur,hv,_,hh,_⟩
 ·omega
 rcases s2.2 with ⟨_,h0⟩|⟨gv,cv,curv,hvv,_,hhv,_⟩
 ·omega
 injection hv with e1 e2 e3;injection hvv with f1 f2 f3;subst e1 e3 f1 f3;refine ⟨g,k1,gv,k2,p,r1,s1,r3 g rfl,s3 gv rfl,(zRB.1 hh).1,(zRB.1 hhv).1,hp,fun j nm hj=>?_,fun j q hj=>?_⟩
 ·rw [r2.cellAt j (by have:=(zR7.1 hj).1;omega)];simp [zG,hj]
 ·rw [s2.cellAt j (by have:=(zR7.1 hj).1;have:=h.len;omega)];simp [yP,hj]
def zy (tg:Tags) (o d:Nat) (D':M.Dsk) (w w':World):Prop:=∃ (tg':Tags) (ids' ps':List Nat),(∀ k,k<w.heap.size→tg' k=tg k)∧zC w' tg' o d D' ids' ps'∧Only o tg w w'
theorem zy.same {tg:Tags} {D':M.Dsk} (h:zC w' tg o d D' ids ps) (ho:Only o tg w w'):zy tg o d D' w w':=⟨tg,ids,ps,fun _ _=>rfl,h,ho⟩
end Go.Proofs.YtekdenkllipehabGreatDoor
