import Derived.Test.YtekdenkllipehabGreatDoorK09
import Derived.Test.YtekdenkllipehabGreatDoorRows
import Derived.Laws.OwnMore
import Derived.Deep.QuietTactic
import Derived.BigQuiet
import Derived.Deep.DeepCutAuto
import Derived.Deep.RegionWith
import Derived.Laws.Cover1
import Derived.Laws.IdiomStrings
set_option maxRecDepth 100000
set_option maxHeartbeats 8000000
namespace Go.Proofs.YtekdenkllipehabGreatDoor
open Go.RowKit
def byteVals (l:List UInt8):List Value:=l.map fun b=>.int .u8 (b.toNat:Int)
def ptrVals (ps:List Nat):List Value:=ps.map fun p=>.pointer (some ⟨p,0,none⟩)
abbrev Tags:=Nat→Nat × Nat
structure Only (o:Nat) (tg:Tags) (w w':World):Prop where
 os:w'.os=w.os
 tape:w'.tape=w.tape
 output:w'.output=w.output
 size:w.heap.size≤w'.heap.size
 block:∀ k,k<w.heap.size→(tg k).1≠o→w'.heap[k]?=w.heap[k]?
theorem Only.refl (o:Nat) (tg:Tags) (w:World):Only o tg w w:=⟨rfl,rfl,rfl,Nat.le_refl _,fun _ _ _=>rfl⟩
theorem Only.of_q {o:Nat} {tg:Tags} {w w':World} (q:Q w w'):Only o tg w w':=⟨q.below.os,q.below.tape,q.below.output,q.below.size,fun k hk _=>q.below.block k hk⟩
theorem row_keep {w w':World} {base:Nat} {e:TypeId} {size:Nat} {v:Value} {n:Nat} {xs:List Value} (h:w.ownsRow base e size v n xs) (hb:∀ g,v.ownBlock=some g→w'.heap[g]?=w.heap[g]?):w'.ownsRow base e size v n xs:=by
 refine ⟨h.1,?_⟩
 rcases h.2 with h2|⟨g,cap,cur,hv,hg,hh,r⟩
 ·exact Or.inl h2
 ·exact Or.inr ⟨g,cap,cur,hv,hg,by rw [hb g (by rw [hv];rfl)];exact hh,r⟩
theorem Only.trans {o:Nat} {tg:Tags} {a b c:World} (h:Only o tg a b) (k:Only o tg b c):Only o tg a c:=
 ⟨k.os.trans h.os,k.tape.trans h.tape,k.output.trans h.output,Nat.le_trans h.size k.size,fun i hi hn=>(k.block i (Nat.lt_of_lt_of_le hi h.size) hn).trans (h.block i hi hn)⟩
theorem only_set {o d:Nat} {tg:Tags} {w w':World} (h:Only o tg w w') (ht:∀ k,k<w.heap.size→k=d→(tg k).1=o) (j:Nat) (v:Value):Only o tg w (w'.setCell ⟨d,j,none⟩ v):=
 ⟨h.os,h.tape,h.output,by simpa using h.size,fun k hk hn=>(heap_setCell_other w' ⟨d,j,none⟩ k v (fun e=>hn (ht k hk (by simpa using e)))).trans (h.block k hk hn)⟩
def Tags.more (tg:Tags) (n o u:Nat):Tags:=fun k=>if k<n then tg k else (o,u)
theorem Tags.more_old {tg:Tags} {n o u k:Nat} (h:k<n):tg.more n o u k=tg k:=by simp [Tags.more,h]
theorem Tags.more_new {tg:Tags} {n o u k:Nat} (h:n≤k):tg.more n o u k=(o,u):=by simp [Tags.more,Nat.not_lt.2 h]
theorem erase_from {α:Type} {l:List α} {i j:Nat} {a:α} (h:(l.eraseIdx i)[j]?=some a):l[if j<i then j else j+1]?=some a:=by
 rw [List.getElem?_eraseIdx] at h
 by_cases hj:j<i
 ·rw [if_pos hj] at h ⊢
  exact h
 ·rw [if_neg hj] at h ⊢
  exact h
def insAt {α:Type} (l:List α) (j:Nat) (x:α):List α:=l.take j++x::l.drop j
theorem insAt_get {α:Type} {l:List α} {j i:Nat} {x a:α} (hj:j≤l.length) (h:(insAt l j x)[i]?=some a):(i=j∧a=x)∨(i≠j∧l[if i<j then i else i-1]?=some a):=by
 unfold insAt at h
 have hl:(l.take j).length=j:=by simp;omega
 rcases Nat.lt_trichotomy i j with hij|rfl|hij
 ·right
  rw [List.getElem?_append_left (by omega),List.getElem?_take_of_lt hij] at h
  exact ⟨by omega,by rw [if_pos hij];exact h⟩
 ·left
  rw [List.getElem?_append_right (by omega),hl,Nat.sub_self] at h
  simp at h
  exact ⟨rfl,h.symm⟩
 ·right
  rw [List.getElem?_append_right (by omega),hl] at h
  obtain ⟨m,hm⟩:∃ m,i-j=m+1:=⟨i-j-1,by omega⟩
  rw [hm,List.getElem?_cons_succ,List.getElem?_drop] at h
  refine ⟨by omega,?_⟩
  rw [if_neg (by omega),show i-1=j+m by omega]
  exact h
theorem insAt_length {α:Type} {l:List α} {j:Nat} {x:α} (hj:j≤l.length):(insAt l j x).length=l.length+1:=by simp [insAt];omega
theorem insAt_nodup {l:List Nat} {j x:Nat} (h:l.Nodup) (hx:x∉l):(insAt l j x).Nodup:=by
 have hp:(insAt l j x).Perm (x::l):=by
  unfold insAt
  refine List.perm_middle.trans ?_
  rw [List.take_append_drop]
 rw [hp.nodup_iff]
 exact List.nodup_cons.2 ⟨hx,h⟩
theorem insAt_self {α:Type} {l:List α} {j:Nat} (hj:j≤l.length) (x:α):(insAt l j x)[j]?=some x:=by
 unfold insAt
 have hl:(l.take j).length=j:=by simp;omega
 rw [List.getElem?_append_right (by omega),hl,Nat.sub_self]
 rfl
theorem insAt_set {α:Type} {l:List α} {j:Nat} (hj:j≤l.length) (x y:α):(insAt l j x).set j y=insAt l j y:=by
 unfold insAt
 have hl:(l.take j).length=j:=by simp;omega
 rw [List.set_append_right _ _ (by omega),hl,Nat.sub_self]
 rfl
theorem fresh_id (l:List Nat):∃ n,n∉l:=by
 suffices h:∃ n,∀ x∈l,x<n by
  obtain ⟨n,hn⟩:=h
  exact ⟨n,fun hm=>Nat.lt_irrefl _ (hn n hm)⟩
 induction l with
 | nil=>exact ⟨0,fun x hx=>by cases hx⟩
 | cons a l ih =>
  obtain ⟨n,hn⟩:=ih
  refine ⟨n+a+1,fun x hx=>?_⟩
  rcases List.mem_cons.1 hx with rfl|hx
  ·omega
  ·have:=hn x hx;omega
theorem erase_notin {l:List Nat} (h:l.Nodup) {i x:Nat} (hx:l[i]?=some x):x∉l.eraseIdx i:=by
 intro hm
 obtain ⟨hi,rfl⟩:=List.getElem?_eq_some_iff.1 hx
 obtain ⟨j,hj,hne,e⟩:=List.mem_eraseIdx_iff_getElem.1 hm
 have h1:=List.pairwise_iff_getElem.1 h
 rcases Nat.lt_or_gt_of_ne hne with hlt|hlt
 ·exact h1 j i hj hi hlt e
 ·exact h1 i j hi hj hlt e.symm
theorem append_where {P:Program} {w:World} {base:Nat} {t ty e:TypeId} {i:TypeInfo} {z:Value} {size bytes:Nat} (ht:P.underlying t=some (.slice e)) (hi:P.info? e=some i) (hz:i.zero=some z)
  (hsize:i.size=size) (hby:i.bytes=bytes)
  {v:Value} {n:Nat} {xs:List Value} (hown:w.ownsRow base e size v n xs)
  {a:Addr} {m c:Nat} {news:List Value} (hl:news.length=m*size) (hnews:∀ j u,news[j]?=some u→w.cell? (a.add j)=some u) (h1:∀ u∈news,u.oneCell'=true)
  (hm:0<m) (h63:n+m≤maxLen) (hbytes:(n+m)*bytes≤140737488355328) {v':Value} {w':World}
  (hrun:(Builtin.append_ #[t,t] ty #[v,.slice (some a) m c]).run P w=.ok v' w') :
  v'.ownBlock=v.ownBlock∨v'.ownBlock=some w.heap.size:=by
 subst hsize
 subst hby
 have hsmall:n+m≤9223372036854775807:=by simp only [maxLen] at h63;omega
 rcases hown.2 with ⟨rfl,rfl⟩|⟨g,cap,cur,rfl,hbg,hg,hnc,hcm,hcs,htake⟩
 ·have hx:xs=[]:=List.eq_nil_of_length_eq_zero (by simpa using hown.1)
  subst hx
  have hr:=run_append_nil (P:=P) w t ty e i z ht hi hz a m c news hl hnews (by omega) (by omega) (by have hb:=hbytes;simp only [Nat.zero_add] at hb;omega)
  rw [hr] at hrun
  injection hrun with hv _
  subst hv
  exact Or.inr rfl
 ·by_cases hroom:n+m≤cap
  ·have hfit:n*i.size+news.length≤cur.size:=by rw [hl,hcs,←Nat.add_mul];exact Nat.mul_le_mul_right _ hroom
   have hr:=run_append_room (P:=P) w t ty e i ht hi g n cap cur hg a m c news hl hnews h1 hroom hfit
   rw [hr] at hrun
   injection hrun with hv _
   subst hv
   exact Or.inl rfl
  ·have holds:∀ j u,xs[j]?=some u→w.cell? ((⟨g,0,none⟩:Addr).add j)=some u:=hown.cells (g:=g) rfl
   have hr:=run_append_grow (P:=P) w t ty e i z ht hi hz ⟨g,0,none⟩ n cap xs hown.1 holds a m c news hl hnews (by omega) (by omega) (growslice_fits (by omega) hbytes)
   rw [hr] at hrun
   injection hrun with hv _
   subst hv
   exact Or.inr rfl
theorem infoU8:(Tryz.prog.info? 5).map (fun i=>(i.zero,i.size,i.bytes))=some (some (.int .u8 0),1,1):=by kernel_rfl
def nameVals (P:List ByteArray):List Value:=P.map Value.string
structure NameRow (w:World) (P:List ByteArray) (ao:Option Addr) (cap:Nat) (wr:World):Prop where
 below:Below w.heap.size w wr
 own:wr.ownsRow w.heap.size 9 1 (.slice ao P.length cap) P.length (nameVals P)
theorem NameRow.start (w:World):NameRow w [] none 0 w:=⟨Below.refl _ _,World.ownsRow_nil _ _ _ _⟩
theorem NameRow.push {w wr w':World} {P:List ByteArray} {ao ao':Option Addr} {cap cap':Nat} (h:NameRow w P ao cap wr) (p:ByteArray) (o:Obj)
  (hg:(wr.alloc o).grownBy w' (Value.slice ao P.length cap).ownBlock)
  (ho:w'.ownsRow w.heap.size 9 1 (.slice ao' (P.length+1) cap') (P.length+1) (nameVals P++[.string p])):NameRow w (P++[p]) ao' cap' w':=by
 have hs:=h.below.size
 refine ⟨(h.below.alloc hs _).grown hg (by simp;omega) (own_base h.own),?_⟩
 have:nameVals (P++[p])=nameVals P++[.string p]:=by simp [nameVals]
 rw [this,List.length_append]
 exact ho
theorem tag_ne {tg:Tags} {k o a b:Nat} (h:tg k=(o,a)) (hn:a≠b):tg k≠(o,b):=fun e=>hn (by rw [h] at e;injection e)
structure MapAt (w:World) (tg:Tags) (o d:Nat) (names:List ByteArray) (ps:List Nat):Prop where
 fr:∀ j,w.frozen? ⟨d,j,none⟩=false
 td:tg d=(o,0)
 top:d<w.heap.size
 keys:∃ ao cap,w.cell? ⟨d,1,none⟩=some (.slice ao names.length cap)∧w.ownsRow 0 9 1 (.slice ao names.length cap) names.length (strVals names)∧∀ g,(Value.slice ao names.length cap).ownBlock=some g→tg g=(o,1)
 vals:∃ ao cap,w.cell? ⟨d,2,none⟩=some (.slice ao names.length cap)∧w.ownsRow 0 87 1 (.slice ao names.length cap) names.length (ptrVals ps)∧∀ g,(Value.slice ao names.length cap).ownBlock=some g→tg g=(o,2)
 len:ps.length=names.length
structure LFileAt (w:World) (tg:Tags) (o p id:Nat) (f:M.Fil) (bo:Option Addr) (bc:Nat):Prop where
 c0:w.cell? ⟨p,0,none⟩=some (.slice bo f.bytes.length bc)
 c1:w.cell? ⟨p,1,none⟩=some (.int .i64 (f.synced:Int))
 fr:∀ j,w.frozen? ⟨p,j,none⟩=false
 own:w.ownsRow 0 5 1 (.slice bo f.bytes.length bc) f.bytes.length (byteVals f.bytes)
 tp:tg p=(o,3+2*id)
 tb:∀ g,(Value.slice bo f.bytes.length bc).ownBlock=some g→tg g=(o,4+2*id)
 top:p<w.heap.size
def namesOf (fs:List M.Fil):List ByteArray:=fs.map fun f=>f.name
@[simp] theorem namesOf_length (fs:List M.Fil):(namesOf fs).length=fs.length:=by simp [namesOf]
structure LDiskAt (w:World) (tg:Tags) (o d:Nat) (D:M.Dsk) (ids ps:List Nat):Prop where
 map:MapAt w tg o d (namesOf D.files) ps
 c0:w.cell? ⟨d,0,none⟩=some (.int .i64 (D.cap:Int))
 c3:w.cell? ⟨d,3,none⟩=some (.bool D.dead)
 c4:w.cell? ⟨d,4,none⟩=some (.int .i64 (D.fuse:Int))
 nodup:ids.Nodup
 lenI:ids.length=D.files.length
 file:∀ (i p id:Nat) (f:M.Fil),ps[i]?=some p→ids[i]?=some id→D.files[i]?=some f→∃ bo bc,LFileAt w tg o p id f bo bc
theorem MapAt.keep {w w':World} {tg tg':Tags} {o d:Nat} {names:List ByteArray} {ps:List Nat} (h:MapAt w tg o d names ps) (hs:w.heap.size≤w'.heap.size) (ht:∀ k,k<w.heap.size→tg' k=tg k)
  (hb:∀ k,k<w.heap.size→(tg k=(o,0)∨tg k=(o,1)∨tg k=(o,2))→w'.heap[k]?=w.heap[k]?):MapAt w' tg' o d names ps:=by
 have hd:w'.heap[d]?=w.heap[d]?:=hb d h.top (Or.inl h.td)
 obtain ⟨a1,k1,r1,r2,r3⟩:=h.keys
 obtain ⟨a2,k2,s1,s2,s3⟩:=h.vals
 exact ⟨fun j=>(World.frozen?_of_block (a:=⟨d,j,none⟩) hd).trans (h.fr j),(ht d h.top).trans h.td,Nat.lt_of_lt_of_le h.top hs,
  ⟨a1,k1,(World.cell?_of_block (a:=⟨d,1,none⟩) hd).trans r1,row_keep r2 (fun g hg=>hb g (r2.lt g hg).2 (Or.inr (Or.inl (r3 g hg)))),fun g hg=>(ht g (r2.lt g hg).2).trans (r3 g hg)⟩,
  ⟨a2,k2,(World.cell?_of_block (a:=⟨d,2,none⟩) hd).trans s1,row_keep s2 (fun g hg=>hb g (s2.lt g hg).2 (Or.inr (Or.inr (s3 g hg)))),fun g hg=>(ht g (s2.lt g hg).2).trans (s3 g hg)⟩,h.len⟩
theorem LFileAt.keep {w w':World} {tg tg':Tags} {o p id:Nat} {f:M.Fil} {bo:Option Addr} {bc:Nat} (h:LFileAt w tg o p id f bo bc) (hs:w.heap.size≤w'.heap.size) (ht:∀ k,k<w.heap.size→tg' k=tg k)
  (hb:∀ k,k<w.heap.size→tg k=(o,3+2*id)∨tg k=(o,4+2*id)→w'.heap[k]?=w.heap[k]?):LFileAt w' tg' o p id f bo bc:=by
 have hp:w'.heap[p]?=w.heap[p]?:=hb p h.top (Or.inl h.tp)
 exact ⟨(World.cell?_of_block (a:=⟨p,0,none⟩) hp).trans h.c0,(World.cell?_of_block (a:=⟨p,1,none⟩) hp).trans h.c1,fun j=>(World.frozen?_of_block (a:=⟨p,j,none⟩) hp).trans (h.fr j),row_keep h.own (fun g hg=>hb g (h.own.lt g hg).2 (Or.inr (h.tb g hg))),(ht p h.top).trans h.tp,fun g hg=>(ht g (h.own.lt g hg).2).trans (h.tb g hg),Nat.lt_of_lt_of_le h.top hs⟩
theorem LDiskAt.keep {w w':World} {tg tg':Tags} {o d:Nat} {D:M.Dsk} {ids ps:List Nat} (h:LDiskAt w tg o d D ids ps) (hs:w.heap.size≤w'.heap.size) (ht:∀ k,k<w.heap.size→tg' k=tg k)
  (hb:∀ k,k<w.heap.size→(tg k).1=o→w'.heap[k]?=w.heap[k]?):LDiskAt w' tg' o d D ids ps:=by
 have hd:w'.heap[d]?=w.heap[d]?:=hb d h.map.top (by rw [h.map.td])
 refine ⟨h.map.keep hs ht (fun k hk e=>hb k hk (by rcases e with e | e | e<;>rw [e])),(World.cell?_of_block (a:=⟨d,0,none⟩) hd).trans h.c0,(World.cell?_of_block (a:=⟨d,3,none⟩) hd).trans h.c3,(World.cell?_of_block (a:=⟨d,4,none⟩) hd).trans h.c4,h.nodup,h.lenI,fun i p id f h1 h2 h3=>?_⟩
 obtain ⟨bo,bc,hF⟩:=h.file i p id f h1 h2 h3
 exact ⟨bo,bc,hF.keep hs ht (fun k hk e=>hb k hk (by rcases e with e | e<;>rw [e]))⟩
theorem LDiskAt.kept {w w':World} {tg:Tags} {o d:Nat} {D:M.Dsk} {ids ps:List Nat} (h:LDiskAt w tg o d D ids ps) (q:Q w w'):LDiskAt w' tg o d D ids ps:=
 h.keep q.below.size (fun _ _=>rfl) (fun k hk _=>q.below.block k hk)
theorem MapAt.kept {w w':World} {tg:Tags} {o d:Nat} {names:List ByteArray} {ps:List Nat} (h:MapAt w tg o d names ps) (q:Q w w'):MapAt w' tg o d names ps:=
 h.keep q.below.size (fun _ _=>rfl) (fun k hk _=>q.below.block k hk)
structure MapOnly (tg:Tags) (o d:Nat) (w w':World):Prop where
 os:w'.os=w.os
 tape:w'.tape=w.tape
 output:w'.output=w.output
 size:w.heap.size≤w'.heap.size
 block:∀ k,k<w.heap.size→tg k≠(o,0)→tg k≠(o,1)→tg k≠(o,2)→w'.heap[k]?=w.heap[k]?
 c0:w'.cell? ⟨d,0,none⟩=w.cell? ⟨d,0,none⟩
 c3:w'.cell? ⟨d,3,none⟩=w.cell? ⟨d,3,none⟩
 c4:w'.cell? ⟨d,4,none⟩=w.cell? ⟨d,4,none⟩
theorem MapOnly.only {tg:Tags} {o d:Nat} {w w':World} (h:MapOnly tg o d w w'):Only o tg w w':=⟨h.os,h.tape,h.output,h.size,fun k hk hn=>h.block k hk (fun e=>hn (by rw [e])) (fun e=>hn (by rw [e])) (fun e=>hn (by rw [e]))⟩
theorem LDiskAt.remap {w w':World} {tg tg':Tags} {o d:Nat} {D:M.Dsk} {ids ps:List Nat} (h:LDiskAt w tg o d D ids ps) (ho:MapOnly tg o d w w') (ht:∀ k,k<w.heap.size→tg' k=tg k) {ps' ids':List Nat} {files':List M.Fil}
  (hm:MapAt w' tg' o d (namesOf files') ps') (hn:ids'.Nodup) (hl:ids'.length=files'.length)
  (hfile:∀ (i p id:Nat) (f:M.Fil),ps'[i]?=some p→ids'[i]?=some id→files'[i]?=some f→∃ bo bc,LFileAt w tg o p id f bo bc):LDiskAt w' tg' o d ⟨D.cap,files',D.dead,D.fuse⟩ ids' ps':=by
 refine ⟨hm,ho.c0.trans h.c0,ho.c3.trans h.c3,ho.c4.trans h.c4,hn,hl,fun i p id f h1 h2 h3=>?_⟩
 obtain ⟨bo,bc,hF⟩:=hfile i p id f h1 h2 h3
 exact ⟨bo,bc,hF.keep ho.size ht (fun k hk e=>ho.block k hk (by rcases e with e | e<;>exact tag_ne e (by omega)) (by rcases e with e | e<;>exact tag_ne e (by omega)) (by rcases e with e | e<;>exact tag_ne e (by omega)))⟩
theorem LDiskAt.header {w w':World} {tg:Tags} {o d:Nat} {D:M.Dsk} {ids ps:List Nat} (h:LDiskAt w tg o d D ids ps) (hg:w.grownBy w' (some d)) (hfr:∀ j,w'.frozen? ⟨d,j,none⟩=false)
  (h1:w'.cell? ⟨d,1,none⟩=w.cell? ⟨d,1,none⟩) (h2:w'.cell? ⟨d,2,none⟩=w.cell? ⟨d,2,none⟩) (dead:Bool) (fuse:Nat) (k0:w'.cell? ⟨d,0,none⟩=some (.int .i64 (D.cap:Int))) (k3:w'.cell? ⟨d,3,none⟩=some (.bool dead)) (k4:w'.cell? ⟨d,4,none⟩=some (.int .i64 (fuse:Int))) :
  LDiskAt w' tg o d ⟨D.cap,D.files,dead,fuse⟩ ids ps:=by
 have hne:∀ k,k<w.heap.size→tg k≠(o,0)→w'.heap[k]?=w.heap[k]?:=fun k hk ht=>hg.block k hk (fun e=>ht (by simp at e;rw [e];exact h.map.td))
 obtain ⟨a1,q1,r1,r2,r3⟩:=h.map.keys
 obtain ⟨a2,q2,s1,s2,s3⟩:=h.map.vals
 refine ⟨⟨hfr,h.map.td,Nat.lt_of_lt_of_le h.map.top hg.size,⟨a1,q1,h1.trans r1,row_keep r2 (fun g hgb=>hne g (r2.lt g hgb).2 (tag_ne (r3 g hgb) (by omega))),r3⟩,⟨a2,q2,h2.trans s1,row_keep s2 (fun g hgb=>hne g (s2.lt g hgb).2 (tag_ne (s3 g hgb) (by omega))),s3⟩,h.map.len⟩,k0,k3,k4,h.nodup,h.lenI,fun i p id f e1 e2 e3=>?_⟩
 obtain ⟨bo,bc,hF⟩:=h.file i p id f e1 e2 e3
 exact ⟨bo,bc,hF.keep hg.size (fun _ _=>rfl) (fun k hk ho=>hne k hk (by rcases ho with e | e<;>exact tag_ne e (by omega)))⟩
theorem nodup_get {ids:List Nat} (h:ids.Nodup) {i j x:Nat} (hi:ids[i]?=some x) (hj:ids[j]?=some x):i=j:=by
 obtain ⟨l1,e1⟩:=List.getElem?_eq_some_iff.1 hi
 obtain ⟨l2,e2⟩:=List.getElem?_eq_some_iff.1 hj
 exact (List.getElem_inj h).1 (e1.trans e2.symm)
theorem LDiskAt.turn {w w':World} {tg tg':Tags} {o d:Nat} {D:M.Dsk} {ids ps:List Nat} (h:LDiskAt w tg o d D ids ps) {i p id:Nat} {f:M.Fil} (hp:ps[i]?=some p) (hid:ids[i]?=some id) (hf:D.files[i]?=some f) (hs:w.heap.size≤w'.heap.size) (ht:∀ k,k<w.heap.size→tg' k=tg k)
  (hb:∀ k,k<w.heap.size→tg k≠(o,3+2*id)→tg k≠(o,4+2*id)→w'.heap[k]?=w.heap[k]?) (f':M.Fil) (hn:f'.name=f.name) {bo:Option Addr} {bc:Nat} (hF:LFileAt w' tg' o p id f' bo bc) :
  LDiskAt w' tg' o d ⟨D.cap,D.files.set i f',D.dead,D.fuse⟩ ids ps:=by
 have hd:w'.heap[d]?=w.heap[d]?:=hb d h.map.top (tag_ne h.map.td (by omega)) (tag_ne h.map.td (by omega))
 have hnm:namesOf (D.files.set i f')=namesOf D.files:=by
  unfold namesOf
  rw [List.map_set]
  obtain ⟨hi,he⟩:=List.getElem?_eq_some_iff.1 hf
  apply List.ext_getElem (by simp)
  intro n h1 h2
  rw [List.getElem_set]
  split
  ·rename_i e
   subst e
   rw [List.getElem_map,he,hn]
  ·rfl
 refine ⟨by rw [hnm];exact h.map.keep hs ht (fun k hk e=>hb k hk (by rcases e with e | e | e<;>exact tag_ne e (by omega)) (by rcases e with e | e | e<;>exact tag_ne e (by omega))),(World.cell?_of_block (a:=⟨d,0,none⟩) hd).trans h.c0,(World.cell?_of_block (a:=⟨d,3,none⟩) hd).trans h.c3,(World.cell?_of_block (a:=⟨d,4,none⟩) hd).trans h.c4,h.nodup,by simpa using h.lenI,fun j p' id' g hp' hi' hg=>?_⟩
 by_cases hj:j=i
 ·subst hj
  rw [hp] at hp'
  rw [hid] at hi'
  obtain rfl:=Option.some.inj hp'
  obtain rfl:=Option.some.inj hi'
  have hl:j<D.files.length:=by have:=(List.getElem?_eq_some_iff.1 hg).1;simpa using this
  simp only [List.getElem?_set_self hl,Option.some.injEq] at hg
  subst hg
  exact ⟨bo,bc,hF⟩
 ·simp only at hg
  rw [List.getElem?_set_ne (Ne.symm hj)] at hg
  obtain ⟨bo',bc',hF'⟩:=h.file j p' id' g hp' hi' hg
  have hne:id'≠id:=fun e=>by
   subst e
   exact hj (nodup_get h.nodup hi' hid)
  exact ⟨bo',bc',hF'.keep hs ht (fun k hk ho=>hb k hk (by rcases ho with e | e<;>exact tag_ne e (by omega)) (by rcases ho with e | e<;>exact tag_ne e (by omega)))⟩
theorem MapAt.at {w:World} {tg:Tags} {o d:Nat} {names:List ByteArray} {ps:List Nat} (h:MapAt w tg o d names ps) {i:Nat} (hi:i<names.length) :
  ∃ g cap gv capv p,w.cell? ⟨d,1,none⟩=some (.slice (some ⟨g,0,none⟩) names.length cap)∧w.cell? ⟨d,2,none⟩=some (.slice (some ⟨gv,0,none⟩) names.length capv)∧tg g=(o,1)∧tg gv=(o,2)∧g<w.heap.size∧gv<w.heap.size∧ps[i]?=some p ∧
   (∀ j nm,names[j]?=some nm→w.cell? ⟨g,j,none⟩=some (.string nm))∧(∀ j q,ps[j]?=some q→w.cell? ⟨gv,j,none⟩=some (.pointer (some ⟨q,0,none⟩))):=by
 obtain ⟨a1,k1,r1,r2,r3⟩:=h.keys
 obtain ⟨a2,k2,s1,s2,s3⟩:=h.vals
 obtain ⟨p,hp⟩:∃ p,ps[i]?=some p:=⟨_,List.getElem?_eq_getElem (by rw [h.len];exact hi)⟩
 rcases r2.2 with ⟨_,h0⟩|⟨g,c,cur,hv,_,hh,_⟩
 ·omega
 rcases s2.2 with ⟨_,h0⟩|⟨gv,cv,curv,hvv,_,hhv,_⟩
 ·omega
 injection hv with e1 e2 e3
 injection hvv with f1 f2 f3
 subst e1 e3 f1 f3
 refine ⟨g,k1,gv,k2,p,r1,s1,r3 g rfl,s3 gv rfl,(Array.getElem?_eq_some_iff.1 hh).1,(Array.getElem?_eq_some_iff.1 hhv).1,hp,fun j nm hj=>?_,fun j q hj=>?_⟩
 ·rw [r2.cellAt j (by have:=(List.getElem?_eq_some_iff.1 hj).1;omega)]
  simp [strVals,hj]
 ·rw [s2.cellAt j (by have:=(List.getElem?_eq_some_iff.1 hj).1;have:=h.len;omega)]
  simp [ptrVals,hj]
def LEnded (tg:Tags) (o d:Nat) (D':M.Dsk) (w w':World):Prop:=∃ (tg':Tags) (ids' ps':List Nat),(∀ k,k<w.heap.size→tg' k=tg k)∧LDiskAt w' tg' o d D' ids' ps'∧Only o tg w w'
theorem LEnded.same {tg:Tags} {o d:Nat} {D':M.Dsk} {w w':World} {ids ps:List Nat} (h:LDiskAt w' tg o d D' ids ps) (ho:Only o tg w w'):LEnded tg o d D' w w':=⟨tg,ids,ps,fun _ _=>rfl,h,ho⟩
end Go.Proofs.YtekdenkllipehabGreatDoor
