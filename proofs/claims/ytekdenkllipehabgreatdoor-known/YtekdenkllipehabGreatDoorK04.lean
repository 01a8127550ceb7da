import Derived.Test.YtekdenkllipehabGreatDoorK03
import Derived.Lib.Strings
set_option maxRecDepth 100000
set_option maxHeartbeats 8000000
set_option linter.unusedSimpArgs false
namespace Go.Proofs.YtekdenkllipehabGreatDoor.M
theorem less_irrefl:∀ l:List UInt8,Op.bytesLess l l=false
 | []=>rfl
 | a::l=>by simp [Op.bytesLess,less_irrefl l]
theorem less_cons (a b:UInt8) (x y:List UInt8):Op.bytesLess (a::x) (b::y)=(decide (a<b) || (a == b && Op.bytesLess x y)):=by
 simp [Op.bytesLess]
theorem less_trans:∀ {x y z:List UInt8},Op.bytesLess x y=true→Op.bytesLess y z=true→Op.bytesLess x z=true
 | [],y,z,h1,h2=>by
  cases z with
  | nil=>cases y<;>simp [Op.bytesLess] at h2
  | cons c z=>simp [Op.bytesLess]
 | a::x,[],z,h1,h2=>by simp [Op.bytesLess] at h1
 | a::x,b::y,[],h1,h2=>by simp [Op.bytesLess] at h2
 | a::x,b::y,c::z,h1,h2=>by
  rw [less_cons] at h1 h2 ⊢
  simp only [Bool.or_eq_true,decide_eq_true_eq,Bool.and_eq_true,beq_iff_eq] at h1 h2 ⊢
  rcases h1 with h1|⟨rfl,h1⟩
  ·rcases h2 with h2|⟨rfl,h2⟩
   ·exact Or.inl (UInt8.lt_trans h1 h2)
   ·exact Or.inl h1
  ·rcases h2 with h2|⟨rfl,h2⟩
   ·exact Or.inl h2
   ·exact Or.inr ⟨rfl,less_trans h1 h2⟩
theorem less_total:∀ x y:List UInt8,Op.bytesLess x y=true∨x=y∨Op.bytesLess y x=true
 | [],[]=>by simp
 | [],_::_=>by simp [Op.bytesLess]
 | _::_,[]=>by simp [Op.bytesLess]
 | a::x,b::y=>by
  rw [less_cons,less_cons]
  simp only [Bool.or_eq_true,decide_eq_true_eq,Bool.and_eq_true,beq_iff_eq]
  by_cases hab:a=b
  ·subst hab
   rcases less_total x y with h|h|h
   ·exact Or.inl (Or.inr ⟨rfl,h⟩)
   ·exact Or.inr (Or.inl (by rw [h]))
   ·exact Or.inr (Or.inr (Or.inr ⟨rfl,h⟩))
  ·by_cases hlt:a<b
   ·exact Or.inl (Or.inl hlt)
   ·refine Or.inr (Or.inr (Or.inl ?_))
    have:a.toNat≠b.toNat:=fun e=>hab (UInt8.toNat_inj.1 e)
    rw [UInt8.lt_iff_toNat_lt] at hlt ⊢
    omega
theorem bytes_ext {a b:ByteArray} (h:a.toList=b.toList):a=b:=by
 rw [Lib.toList_data,Lib.toList_data] at h
 cases a with
 | mk x=>cases b with
  | mk y=>exact congrArg ByteArray.mk (Array.toList_inj.1 h)
def ahead (nm:ByteArray) (x:Fil):Bool:=Op.bytesLess x.name.toList nm.toList
def Sorted (fs:List Fil):Prop:=fs.Pairwise fun a b=>Op.bytesLess a.name.toList b.name.toList=true
def lowAt (fs:List Fil) (nm:ByteArray):Nat:=(fs.takeWhile (ahead nm)).length
theorem lowAt_le (fs:List Fil) (nm:ByteArray):lowAt fs nm≤fs.length:=(List.takeWhile_sublist _).length_le
theorem Sorted.get {fs:List Fil} (h:Sorted fs) {i j:Nat} {a b:Fil} (hi:fs[i]?=some a) (hj:fs[j]?=some b) (hij:i<j):Op.bytesLess a.name.toList b.name.toList=true:=by
 obtain ⟨h1,rfl⟩:=List.getElem?_eq_some_iff.1 hi
 obtain ⟨h2,rfl⟩:=List.getElem?_eq_some_iff.1 hj
 exact List.pairwise_iff_getElem.1 h i j h1 h2 hij
theorem lowAt_eq {nm:ByteArray}:∀ {fs:List Fil} {k:Nat},k≤fs.length→(∀ t x,t<k→fs[t]?=some x→ahead nm x=true)→(∀ x,fs[k]?=some x→ahead nm x=false)→lowAt fs nm=k
 | [],k,hk,_,_=>by simp at hk;subst hk;rfl
 | y::fs,0,_,_,h2=>by
  have:=h2 y rfl
  simp [lowAt,List.takeWhile_cons,this]
 | y::fs,k+1,hk,h1,h2=>by
  have hy:=h1 0 y (by omega) rfl
  have:=lowAt_eq (nm:=nm) (fs:=fs) (k:=k) (by simpa using hk) (fun t x ht hx=>h1 (t+1) x (by omega) (by simpa using hx)) (fun x hx=>h2 x (by simpa using hx))
  simp only [lowAt] at this
  simp [lowAt,List.takeWhile_cons,hy,this]
theorem lowAt_before {nm:ByteArray}:∀ {fs:List Fil} {k:Nat} {f:Fil},fs[k]?=some f→k<lowAt fs nm→ahead nm f=true
 | [],k,f,h,_=>by simp at h
 | y::fs,0,f,h,hk=>by
  simp at h;subst h
  cases hy:ahead nm y
  ·simp [lowAt,List.takeWhile_cons,hy] at hk
  ·rfl
 | y::fs,k+1,f,h,hk=>by
  cases hy:ahead nm y
  ·simp [lowAt,List.takeWhile_cons,hy] at hk
  ·simp [lowAt,List.takeWhile_cons,hy] at hk
   exact lowAt_before (fs:=fs) (k:=k) (by simpa using h) hk
theorem lowAt_here {nm:ByteArray}:∀ {fs:List Fil} {f:Fil},fs[lowAt fs nm]?=some f→ahead nm f=false
 | [],f,h=>by simp at h
 | y::fs,f,h=>by
  cases hy:ahead nm y
  ·simp [lowAt,List.takeWhile_cons,hy] at h
   subst h;exact hy
  ·simp [lowAt,List.takeWhile_cons,hy] at h
   exact lowAt_here (fs:=fs) (by simpa [lowAt] using h)
theorem lowAt_behind {nm:ByteArray} {fs:List Fil} (hs:Sorted fs) {k:Nat} {f:Fil} (hf:fs[k]?=some f) (hk:lowAt fs nm≤k):ahead nm f=false:=by
 rcases Nat.lt_or_ge (lowAt fs nm) k with h|h
 ·have hlt:lowAt fs nm<fs.length:=Nat.lt_trans h (List.getElem?_eq_some_iff.1 hf).1
  have hg:=List.getElem?_eq_getElem hlt
  have h1:=lowAt_here hg
  have h2:=hs.get hg hf h
  cases h3:ahead nm f
  ·rfl
  ·have:=less_trans h2 h3
   unfold ahead at h1
   rw [h1] at this
   cases this
 ·have:k=lowAt fs nm:=by omega
  subst this
  exact lowAt_here hf
theorem named_eq {nm:ByteArray} {f:Fil}:named nm f=true↔f.name=nm:=by
 unfold named
 rw [beq_iff_eq]
 exact ⟨bytes_ext,fun h=>by rw [h]⟩
theorem place_low {fs:List Fil} (hs:Sorted fs) {nm:ByteArray} {i:Nat} (h:place fs nm=some i):lowAt fs nm=i:=by
 obtain ⟨f,hf,hn,_⟩:=place_some h
 have hn:=named_eq.1 hn
 refine lowAt_eq (Nat.le_of_lt (List.getElem?_eq_some_iff.1 hf).1) (fun t x ht hx=>?_) (fun x hx=>?_)
 ·have:=hs.get hx hf ht
  rw [hn] at this
  exact this
 ·rw [hf] at hx
  obtain rfl:=Option.some.inj hx
  unfold ahead
  rw [hn,less_irrefl]
theorem place_of {fs:List Fil} (hs:Sorted fs) {nm:ByteArray} {i:Nat} {f:Fil} (hf:fs[i]?=some f) (hn:f.name=nm):place fs nm=some i:=by
 refine place_at hf (named_eq.2 hn) (fun k hk g hg=>?_)
 have:=hs.get hg hf hk
 cases hx:named nm g
 ·rfl
 ·rw [named_eq.1 hx,hn,less_irrefl] at this
  cases this
theorem place_found {fs:List Fil} (hs:Sorted fs) (nm:ByteArray):place fs nm=if ((fs[lowAt fs nm]?).map fun f=>decide (f.name=nm)).getD false=true then some (lowAt fs nm) else none:=by
 split
 ·rename_i h
  cases hx:fs[lowAt fs nm]? with
  | none=>rw [hx] at h;simp at h
  | some f =>
   rw [hx] at h
   simp at h
   exact place_of hs hx h
 ·rename_i h
  cases hp:place fs nm with
  | none=>rfl
  | some i =>
   have hi:=place_low hs hp
   obtain ⟨f,hf,hn,_⟩:=place_some hp
   rw [hi,hf] at h
   simp [named_eq.1 hn] at h
theorem takeWhile_congr' {α:Type} {p q:α→Bool}:∀ {l:List α},(∀ x∈l,p x=q x)→l.takeWhile p=l.takeWhile q
 | [],_=>rfl
 | x::l,h=>by
  simp only [List.takeWhile_cons,h x (List.mem_cons_self ..)]
  rw [takeWhile_congr' (fun y hy=>h y (List.mem_cons_of_mem _ hy))]
theorem dropWhile_take {α:Type} (p:α→Bool):∀ l:List α,l.dropWhile p=l.drop (l.takeWhile p).length
 | []=>rfl
 | x::l=>by
  cases h:p x
  ·simp [List.takeWhile_cons,List.dropWhile_cons,h]
  ·simp [List.takeWhile_cons,List.dropWhile_cons,h,dropWhile_take p l]
theorem takeWhile_take {α:Type} (p:α→Bool):∀ l:List α,l.takeWhile p=l.take (l.takeWhile p).length
 | []=>rfl
 | x::l=>by
  cases h:p x
  ·simp [List.takeWhile_cons,h]
  ·simp only [List.takeWhile_cons,h,if_true,List.length_cons,List.take_succ_cons]
   rw [←takeWhile_take p l]
theorem put_low {fs:List Fil} {f:Fil} (h:place fs f.name=none):put fs f=fs.take (lowAt fs f.name)++f::fs.drop (lowAt fs f.name)∧(fs.takeWhile fun x=>!beyond f.name x).length=lowAt fs f.name:=by
 have hc:∀ x∈fs,(!beyond f.name x)=ahead f.name x:=fun x hx=>by
  have:=place_none h x hx
  unfold named at this
  unfold beyond ahead
  rw [this]
  simp
 have ht:=takeWhile_congr' hc
 unfold put
 rw [dropWhile_take (fun x=>!beyond f.name x),ht,←lowAt]
 refine ⟨?_,rfl⟩
 rw [takeWhile_take (ahead f.name),←lowAt]
theorem Sorted.take {fs:List Fil} (h:Sorted fs) (k:Nat):Sorted (fs.take k):=h.sublist (List.take_sublist ..)
theorem Sorted.drop {fs:List Fil} (h:Sorted fs) (k:Nat):Sorted (fs.drop k):=h.sublist (List.drop_sublist ..)
theorem Sorted.erase {fs:List Fil} (h:Sorted fs) (k:Nat):Sorted (fs.eraseIdx k):=h.sublist (List.eraseIdx_sublist ..)
theorem Sorted.put {fs:List Fil} (hs:Sorted fs) {f:Fil} (h:place fs f.name=none):Sorted (put fs f):=by
 rw [(put_low h).1]
 have h1:∀ a∈fs.take (lowAt fs f.name),Op.bytesLess a.name.toList f.name.toList=true:=fun a ha=>by
  obtain ⟨t,ht⟩:=List.getElem?_of_mem ha
  rw [List.getElem?_take] at ht
  split at ht
  ·exact lowAt_before ht (by assumption)
  ·cases ht
 have h2:∀ b∈fs.drop (lowAt fs f.name),Op.bytesLess f.name.toList b.name.toList=true:=fun b hb=>by
  obtain ⟨t,ht⟩:=List.getElem?_of_mem hb
  rw [List.getElem?_drop] at ht
  have hB:=lowAt_behind (nm:=f.name) hs ht (by omega)
  have hN:=place_none h b (List.mem_of_getElem? ht)
  rcases less_total f.name.toList b.name.toList with e|e|e
  ·exact e
  ·unfold named at hN
   rw [e] at hN
   simp at hN
  ·unfold ahead at hB
   rw [hB] at e
   cases e
 unfold Sorted
 rw [List.pairwise_append]
 refine ⟨hs.take _,List.pairwise_cons.2 ⟨h2,hs.drop _⟩,fun a ha b hb=>?_⟩
 rcases List.mem_cons.1 hb with rfl|hb
 ·exact h1 a ha
 ·exact less_trans (h1 a ha) (h2 b hb)
theorem put_erased {fs:List Fil} (hs:Sorted fs) {k:Nat} {x g:Fil} (hx:fs[k]?=some x) (hn:x.name=g.name):place (fs.eraseIdx k) g.name=none∧lowAt (fs.eraseIdx k) g.name=k∧put (fs.eraseIdx k) g=fs.set k g:=by
 have hk:k<fs.length:=(List.getElem?_eq_some_iff.1 hx).1
 have hno:place (fs.eraseIdx k) g.name=none:=place_not fun t y hy=>by
  rw [List.getElem?_eraseIdx] at hy
  cases hc:named g.name y
  ·rfl
  ·have hyn:=named_eq.1 hc
   split at hy
   ·have:=hs.get hy hx (by assumption)
    rw [hyn,hn,less_irrefl] at this
    cases this
   ·have:=hs.get hx hy (by omega)
    rw [hyn,hn,less_irrefl] at this
    cases this
 have hlow:lowAt (fs.eraseIdx k) g.name=k:=by
  refine lowAt_eq (by rw [List.length_eraseIdx];split<;>omega) (fun t y ht hy=>?_) (fun y hy=>?_)
  ·rw [List.getElem?_eraseIdx,if_pos ht] at hy
   have:=hs.get hy hx ht
   rw [hn] at this
   exact this
  ·rw [List.getElem?_eraseIdx,if_neg (Nat.lt_irrefl _)] at hy
   have:=hs.get hx hy (by omega)
   rw [hn] at this
   unfold ahead
   cases hc:Op.bytesLess y.name.toList g.name.toList
   ·rfl
   ·have:=less_trans this hc
    rw [less_irrefl] at this
    cases this
 refine ⟨hno,hlow,?_⟩
 rw [(put_low hno).1,hlow,List.eraseIdx_eq_take_drop_succ,List.set_eq_take_append_cons_drop,if_pos hk]
 have hl:(fs.take k).length=k:=by simp;omega
 rw [List.take_append_of_le_length (by omega),List.take_of_length_le (by omega),List.drop_append_of_le_length (by omega),List.drop_of_length_le (by omega),List.nil_append]
structure Dsk.Fine (D:Dsk):Prop where
 good:D.Good
 sorted:Sorted D.files
 fuse:D.fuse≤9223372036854775807
theorem total_cons (f:Fil) (fs:List Fil):total (f::fs)=f.bytes.length+total fs:=by simp [total]
theorem total_append (a b:List Fil):total (a++b)=total a+total b:=by simp [total]
theorem total_erase:∀ (fs:List Fil) (k:Nat),total (fs.eraseIdx k)≤total fs
 | [],_=>by simp [total]
 | f::fs,0=>by simp [total]
 | f::fs,k+1=>by
  have:=total_erase fs k
  simp only [List.eraseIdx_cons_succ,total_cons]
  omega
theorem total_put (fs:List Fil) (f:Fil):total (put fs f)=total fs+f.bytes.length:=by
 unfold put
 have:total fs=total (fs.takeWhile (fun x=>!beyond f.name x))+total (fs.dropWhile (fun x=>!beyond f.name x)):=by rw [←total_append,List.takeWhile_append_dropWhile]
 rw [total_append,total_cons]
 omega
theorem total_set:∀ {fs:List Fil} {i:Nat} {f g:Fil},fs[i]?=some f→total (fs.set i g)+f.bytes.length=total fs+g.bytes.length
 | x::fs,0,f,g,h=>by
  simp at h;subst h
  simp only [List.set_cons_zero,total_cons]
  omega
 | x::fs,i+1,f,g,h=>by
  have:=total_set (fs:=fs) (i:=i) (f:=f) (g:=g) (by simpa using h)
  simp only [List.set_cons_succ,total_cons]
  omega
theorem mem_put {fs:List Fil} {f x:Fil} (h:x∈put fs f):x=f∨x∈fs:=by
 unfold put at h
 rcases List.mem_append.1 h with h|h
 ·exact Or.inr ((List.takeWhile_sublist _).subset h)
 ·rcases List.mem_cons.1 h with h|h
  ·exact Or.inl h
  ·exact Or.inr ((List.dropWhile_sublist _).subset h)
theorem length_put (fs:List Fil) (f:Fil):(put fs f).length=fs.length+1:=by
 unfold put
 have:=congrArg List.length (List.takeWhile_append_dropWhile (p:=fun x=>!beyond f.name x) (l:=fs))
 simp only [List.length_append,List.length_cons] at this ⊢
 omega
theorem Sorted.names {fs gs:List Fil} (h:Sorted fs) (e:gs.map (fun f=>f.name)=fs.map fun f=>f.name):Sorted gs:=by
 unfold Sorted at h ⊢
 have h1:(fs.map fun f=>f.name).Pairwise fun a b=>Op.bytesLess a.toList b.toList=true:=List.pairwise_map.2 h
 rw [←e] at h1
 exact List.pairwise_map.1 h1
theorem set_names {fs:List Fil} {i:Nat} {f g:Fil} (hf:fs[i]?=some f) (hn:g.name=f.name):(fs.set i g).map (fun f=>f.name)=fs.map fun f=>f.name:=by
 rw [List.map_set]
 obtain ⟨hi,he⟩:=List.getElem?_eq_some_iff.1 hf
 apply List.ext_getElem (by simp)
 intro n h1 h2
 rw [List.getElem_set]
 split
 ·rename_i h
  subst h
  rw [List.getElem_map,he,hn]
 ·rfl
theorem Dsk.Fine.head {D:Dsk} (h:D.Fine) (dead:Bool) {fuse:Nat} (hf:fuse≤9223372036854775807):Dsk.Fine ⟨D.cap,D.files,dead,fuse⟩:=⟨⟨h.good.cap,h.good.few,h.good.fits,h.good.synced,h.good.name⟩,h.sorted,hf⟩
theorem Dsk.Fine.dies {D:Dsk} (h:D.Fine):D.dies.1.Fine:=by
 unfold Dsk.dies
 split
 ·exact h.head _ (by have:=h.fuse;omega)
 ·exact h
theorem Dsk.Fine.set {D:Dsk} (h:D.Fine) {i:Nat} {f g:Fil} (hf:D.files[i]?=some f) (hn:g.name=f.name) (ht:total D.files+g.bytes.length≤D.cap+f.bytes.length) (hs:g.synced≤g.bytes.length):Dsk.Fine ⟨D.cap,D.files.set i g,D.dead,D.fuse⟩:=by
 have hm:=total_set (g:=g) hf
 refine ⟨⟨h.good.cap,by simpa using h.good.few,by show total (D.files.set i g)≤D.cap;omega,fun x hx=>?_,fun x hx=>?_⟩,h.sorted.names (set_names hf hn),h.fuse⟩
 ·rcases List.mem_or_eq_of_mem_set hx with hx|rfl
  ·exact h.good.synced x hx
  ·exact hs
 ·rcases List.mem_or_eq_of_mem_set hx with hx|rfl
  ·exact h.good.name x hx
  ·rw [hn]
   exact h.good.name f (List.mem_of_getElem? hf)
theorem Dsk.Fine.erase {D:Dsk} (h:D.Fine) (i:Nat):Dsk.Fine ⟨D.cap,D.files.eraseIdx i,D.dead,D.fuse⟩:=by
 refine ⟨⟨h.good.cap,?_,Nat.le_trans (total_erase _ _) h.good.fits,fun x hx=>h.good.synced x ((List.eraseIdx_sublist ..).subset hx),fun x hx=>h.good.name x ((List.eraseIdx_sublist ..).subset hx)⟩,h.sorted.erase i,h.fuse⟩
 have:=(List.eraseIdx_sublist D.files i).length_le
 have:=h.good.few
 show (D.files.eraseIdx i).length≤64
 omega
theorem Dsk.Fine.put {D:Dsk} (h:D.Fine) {f:Fil} (hp:place D.files f.name=none) (hl:D.files.length<64) (ht:total D.files+f.bytes.length≤D.cap) (hs:f.synced≤f.bytes.length) (hn:okName f.name=true):Dsk.Fine ⟨D.cap,M.put D.files f,D.dead,D.fuse⟩:=by
 refine ⟨⟨h.good.cap,by rw [length_put];omega,by rw [total_put];exact ht,fun x hx=>?_,fun x hx=>?_⟩,h.sorted.put hp,h.fuse⟩
 ·rcases mem_put hx with rfl|hx
  ·exact hs
  ·exact h.good.synced x hx
 ·rcases mem_put hx with rfl|hx
  ·exact hn
  ·exact h.good.name x hx
theorem modify_one {α:Type} {l:List α} {i:Nat} {a:α} (f:α→α) (h:l[i]?=some a):l.modify i f=l.set i (f a):=by
 obtain ⟨hi,rfl⟩:=List.getElem?_eq_some_iff.1 h
 apply List.ext_getElem (by simp)
 intro n h1 h2
 rw [List.getElem_modify,List.getElem_set]
 split
 ·rename_i e
  subst e
  rfl
 ·rfl
theorem Dsk.Fine.changed {D:Dsk} (h:D.Fine) (nm new:ByteArray):(D.changed nm new).1.Fine∧((D.changed nm new).2.2=0→okName new=true∧∃ f,(D.changed nm new).1.files[(D.changed nm new).2.1]?=some f∧f.name=nm):=by
 unfold Dsk.changed
 split
 ·exact ⟨h,by simp⟩
 ·split
  ·exact ⟨h,by simp⟩
  ·rename_i i hi
   split
   ·exact ⟨h,by simp⟩
   ·rename_i hok
    have hd:=h.dies
    have hfs:D.dies.1.files=D.files:=by unfold Dsk.dies;split<;>rfl
    obtain ⟨f,hf,hn,_⟩:=place_some hi
    split
    ·rename_i E hE
     rw [hE] at hd
     exact ⟨hd,by simp⟩
    ·rename_i E hE
     rw [hE] at hd hfs
     refine ⟨hd,fun _=>⟨by simpa using hok,f,?_,named_eq.1 hn⟩⟩
     show E.files[i]?=some f
     rw [show E.files=D.files from hfs]
     exact hf
theorem Dsk.Fine.sync {D:Dsk} (h:D.Fine) (nm:ByteArray):(D.sync nm).1.Fine:=by
 have hc:=h.changed nm one
 unfold Dsk.sync
 split
 ·rename_i E i he
  rw [he] at hc
  obtain ⟨_,f,hf,_⟩:=hc.2 rfl
  simp only at hf
  simp only
  rw [modify_one _ hf]
  exact hc.1.set hf rfl (by have:total E.files≤E.cap:=hc.1.good.fits;simp only;omega) (Nat.le_refl _)
 ·rename_i E i c he
  rw [he] at hc
  exact hc.1
theorem Dsk.Fine.remove {D:Dsk} (h:D.Fine) (nm:ByteArray):(D.remove nm).1.Fine:=by
 have hc:=h.changed nm one
 unfold Dsk.remove
 split
 ·rename_i E i he
  rw [he] at hc
  exact hc.1.erase i
 ·rename_i E i c he
  rw [he] at hc
  exact hc.1
theorem length_erase_lt {fs:List Fil} {i:Nat} {f:Fil} (h:fs[i]?=some f):(fs.eraseIdx i).length+1=fs.length:=by
 have:=(List.getElem?_eq_some_iff.1 h).1
 rw [List.length_eraseIdx,if_pos this]
 omega
theorem total_erase_eq:∀ {fs:List Fil} {i:Nat} {f:Fil},fs[i]?=some f→total (fs.eraseIdx i)+f.bytes.length=total fs
 | x::fs,0,f,h=>by
  simp at h;subst h
  simp only [List.eraseIdx_cons_zero,total_cons]
  omega
 | x::fs,i+1,f,h=>by
  have:=total_erase_eq (fs:=fs) (i:=i) (f:=f) (by simpa using h)
  simp only [List.eraseIdx_cons_succ,total_cons]
  omega
def moved (fs:List Fil) (i:Nat) (f:Fil) (nm:ByteArray):List Fil:=
 match place (fs.eraseIdx i) nm with
 | some k=>(fs.eraseIdx i).set k { f with name:=nm }
 | none=>put (fs.eraseIdx i) { f with name:=nm }
theorem moved_same {fs:List Fil} (hs:Sorted fs) {i:Nat} {f:Fil} (hf:fs[i]?=some f) {nm:ByteArray} (hn:f.name=nm):moved fs i f nm=fs:=by
 subst hn
 obtain ⟨h1,_,h3⟩:=put_erased (g:=f) hs hf rfl
 unfold moved
 rw [h1]
 show put (fs.eraseIdx i) f=fs
 rw [h3]
 obtain ⟨hi,rfl⟩:=List.getElem?_eq_some_iff.1 hf
 exact List.set_getElem_self hi
theorem moved_other {fs:List Fil} (hs:Sorted fs) (i:Nat) (f:Fil) (nm:ByteArray):put (match place (fs.eraseIdx i) nm with | some k=>(fs.eraseIdx i).eraseIdx k | none=>fs.eraseIdx i) { f with name:=nm }=moved fs i f nm:=by
 unfold moved
 split
 ·rename_i k hk
  obtain ⟨x,hx,hn,_⟩:=place_some hk
  exact (put_erased (g:={ f with name:=nm }) (hs.erase i) hx (named_eq.1 hn)).2.2
 ·rfl
theorem rename_moved {D:Dsk} (h:D.Fine) (old nm:ByteArray):D.rename old nm=match D.changed old nm with
  | (E,i,0)=>(match E.files[i]? with | some f=>({ E with files:=moved E.files i f nm },0) | none=>(E,0))
  | (E,_,c)=>(E,c):=by
 have hc:=h.changed old nm
 unfold Dsk.rename
 split
 ·rename_i E i he
  rw [he] at hc ⊢
  obtain ⟨_,f,hf,hn⟩:=hc.2 rfl
  simp only at hf
  simp only [hf]
  split
  ·rename_i hsame
   have:f.name=nm:=by rw [hn];exact bytes_ext (by simpa using hsame)
   rw [moved_same hc.1.sorted hf this]
  ·rw [←moved_other hc.1.sorted]
   rfl
 ·rename_i E i c hne he
  rw [he]
  split
  ·rename_i E' i' he'
   simp only [Prod.mk.injEq] at he'
   exact absurd (show D.changed old nm=(E,i,0) by rw [he,he'.2.2]) (by first | exact hne _ _ | (intro e;rw [he] at e;simp_all))
  ·rename_i he'
   simp only [Prod.mk.injEq] at he'
   obtain ⟨rfl,rfl,rfl⟩:=he'
   rfl
theorem Dsk.Fine.moved {D:Dsk} (h:D.Fine) {i:Nat} {f:Fil} (hf:D.files[i]?=some f) {nm:ByteArray} (hn:okName nm=true):Dsk.Fine ⟨D.cap,M.moved D.files i f nm,D.dead,D.fuse⟩:=by
 have hE:=h.erase i
 have hl:=length_erase_lt hf
 have ht:=total_erase_eq hf
 have hfs:=h.good.synced f (List.mem_of_getElem? hf)
 have hft:=h.good.fits
 have hfw:=h.good.few
 unfold M.moved
 split
 ·rename_i k hk
  obtain ⟨x,hx,hxn,_⟩:=place_some hk
  exact hE.set hx (named_eq.1 hxn).symm (by show total (D.files.eraseIdx i)+f.bytes.length≤D.cap+x.bytes.length;omega) hfs
 ·rename_i hk
  exact hE.put hk (by show (D.files.eraseIdx i).length<64;omega) (by show total (D.files.eraseIdx i)+f.bytes.length≤D.cap;omega) hfs hn
theorem Dsk.Fine.rename {D:Dsk} (h:D.Fine) (old nm:ByteArray):(D.rename old nm).1.Fine:=by
 rw [rename_moved h]
 have hc:=h.changed old nm
 split
 ·rename_i E i he
  rw [he] at hc
  obtain ⟨hok,f,hf,hn⟩:=hc.2 rfl
  simp only at hf
  simp only [hf]
  exact hc.1.moved hf hok
 ·rename_i E i c he
  rw [he] at hc
  exact hc.1
theorem dies_same (D:Dsk):D.dies.1.files=D.files∧D.dies.1.cap=D.cap:=by
 unfold Dsk.dies;split<;>exact ⟨rfl,rfl⟩
theorem Dsk.Fine.append {D:Dsk} (h:D.Fine) (nm:ByteArray) (s:List UInt8):(D.append nm s).1.Fine:=by
 unfold Dsk.append
 split
 ·exact h
 ·split
  ·exact h
  ·rename_i hok
   split
   ·exact h
   ·rename_i hroom
    have hd:=h.dies
    have hfs:=dies_same D
    have hr1:total D.files+s.length≤D.cap:=by
     rcases Nat.lt_or_ge D.cap (total D.files+s.length) with e|e
     ·exact absurd (Or.inl e) hroom
     ·exact e
    split
    ·rename_i E hE
     rw [hE] at hd
     exact hd
    ·rename_i E hE
     rw [hE] at hd hfs
     simp only at hfs hd
     split
     ·rename_i i hi
      obtain ⟨f,hf,_,_⟩:=place_some hi
      rw [modify_one _ hf]
      exact hd.set hf rfl (by simp only [List.length_append,hfs.1,hfs.2];omega) (by have:=hd.good.synced f (List.mem_of_getElem? hf);simp only [List.length_append];omega)
     ·rename_i hi
      refine hd.put hi ?_ (by simp only [hfs.1,hfs.2];exact hr1) (Nat.zero_le _) (by simpa using hok)
      rw [hfs.1] at hi ⊢
      rcases Nat.lt_or_ge D.files.length 64 with e|e
      ·exact e
      ·exact absurd (Or.inr ⟨hi,e⟩) hroom
end Go.Proofs.YtekdenkllipehabGreatDoor.M
namespace Go.Proofs.YtekdenkllipehabGreatDoor
open Go.RowKit
def laidN:ByteArray:=⟨#[115,116,111,114,101]⟩
def freshN:ByteArray:=⟨#[115,116,111,114,101,46,110,101,119]⟩
namespace S
theorem tl:laidN.toList=[115,116,111,114,101]:=by rw [Lib.toList_data];rfl
theorem tf:freshN.toList=[115,116,111,114,101,46,110,101,119]:=by rw [Lib.toList_data];rfl
structure Two where
 cap:Nat
 a:Option (List UInt8 × Nat)
 b:Option (List UInt8 × Nat)
 dead:Bool
 fuse:Nat
def fileOf (nm:ByteArray) (x:Option (List UInt8 × Nat)):List M.Fil:=(x.map fun p=>(⟨nm,p.1,p.2⟩:M.Fil)).toList
def Two.dsk (T:Two):M.Dsk:=⟨T.cap,fileOf laidN T.a++fileOf freshN T.b,T.dead,T.fuse⟩
def len (x:Option (List UInt8 × Nat)):Nat:=(x.map fun p=>p.1.length).getD 0
def Two.total (T:Two):Nat:=len T.a+len T.b
theorem Two.total_dsk (T:Two):M.total T.dsk.files=T.total:=by
 obtain ⟨c,a,b,de,fu⟩:=T
 cases a<;>cases b<;>simp [Two.dsk,Two.total,fileOf,len,M.total]
theorem nll (x:List UInt8 × Nat):M.named laidN ⟨laidN,x.1,x.2⟩=true:=M.named_eq.2 rfl
theorem nff (x:List UInt8 × Nat):M.named freshN ⟨freshN,x.1,x.2⟩=true:=M.named_eq.2 rfl
theorem nlf (x:List UInt8 × Nat):M.named laidN ⟨freshN,x.1,x.2⟩=false:=by unfold M.named;rw [tl,tf];rfl
theorem nfl (x:List UInt8 × Nat):M.named freshN ⟨laidN,x.1,x.2⟩=false:=by unfold M.named;rw [tl,tf];rfl
theorem okl:M.okName laidN=true:=by decide
theorem okf:M.okName freshN=true:=by decide
theorem ok1:M.okName M.one=true:=by decide
theorem bfl (x:List UInt8 × Nat):M.beyond freshN ⟨laidN,x.1,x.2⟩=false:=by unfold M.beyond;rw [tl,tf];rfl
theorem place_l (a b:Option (List UInt8 × Nat)):M.place (fileOf laidN a++fileOf freshN b) laidN=a.map fun _=>0:=by
 cases a<;>cases b<;>simp [fileOf,M.place,nll,nlf,List.findIdx?_cons]
theorem place_f (a b:Option (List UInt8 × Nat)):M.place (fileOf laidN a++fileOf freshN b) freshN=b.map fun _=>(if a.isSome then 1 else 0):=by
 cases a<;>cases b<;>simp [fileOf,M.place,nff,nfl,List.findIdx?_cons]
def Two.dies (T:Two):Two × Bool:=if 0<T.fuse then ({ T with fuse:=T.fuse-1,dead:=decide (T.fuse-1=0)},decide (T.fuse-1=0)) else (T,T.dead)
theorem Two.dies_dsk (T:Two):T.dsk.dies=(T.dies.1.dsk,T.dies.2):=by
 unfold M.Dsk.dies Two.dies
 by_cases h:0<T.fuse
 ·rw [if_pos (show 0<T.dsk.fuse from h),if_pos h];rfl
 ·rw [if_neg (show ¬0<T.dsk.fuse from h),if_neg h];rfl
theorem Two.dies_same (T:Two):T.dies.1.cap=T.cap∧T.dies.1.a=T.a∧T.dies.1.b=T.b:=by
 unfold Two.dies
 split<;>exact ⟨rfl,rfl,rfl⟩
def more (x:Option (List UInt8 × Nat)) (s:List UInt8):Option (List UInt8 × Nat):=some ((x.getD ([],0)).1++s,(x.getD ([],0)).2)
def made (x:Option (List UInt8 × Nat)):Option (List UInt8 × Nat):=x.map fun p=>(p.1,p.1.length)
def Two.append (T:Two) (s:List UInt8):Two × Nat:=
 if T.dead=true then (T,10)
 else if T.cap<T.total+s.length then (T,9)
 else if T.dies.2=true then (T.dies.1,10)
 else ({ T.dies.1 with b:=more T.b s },0)
def Two.change (T:Two) (there:Bool) (E:Two→Two):Two × Nat:=
 if T.dead=true then (T,10)
 else if there=false then (T,7)
 else if T.dies.2=true then (T.dies.1,10)
 else (E T.dies.1,0)
def Two.syncL (T:Two):Two × Nat:=T.change T.a.isSome fun E=>{ E with a:=made T.a }
def Two.syncF (T:Two):Two × Nat:=T.change T.b.isSome fun E=>{ E with b:=made T.b }
def Two.drop (T:Two):Two × Nat:=T.change T.b.isSome fun E=>{ E with b:=none }
def Two.move (T:Two):Two × Nat:=T.change T.b.isSome fun E=>{ E with a:=T.b,b:=none }
theorem Two.append_dsk (T:Two) (s:List UInt8):T.dsk.append freshN s=((T.append s).1.dsk,(T.append s).2):=by
 unfold M.Dsk.append Two.append
 have hd:T.dsk.dead=T.dead:=rfl
 by_cases h1:T.dead=true
 ·rw [if_pos (by rw [hd];exact h1),if_pos h1]
 rw [if_neg (by rw [hd];exact h1),if_neg h1,okf,if_neg (by decide)]
 have hl:¬64≤T.dsk.files.length:=by
  obtain ⟨c,a,b,de,fu⟩:=T
  cases a<;>cases b<;>simp [Two.dsk,fileOf]
 have hc:(T.dsk.cap<M.total T.dsk.files+s.length∨(M.place T.dsk.files freshN=none∧64≤T.dsk.files.length))↔T.cap<T.total+s.length:=by
  rw [Two.total_dsk]
  exact ⟨fun h=>h.elim id (fun h=>absurd h.2 hl),Or.inl⟩
 by_cases h2:T.cap<T.total+s.length
 ·rw [if_pos (hc.2 h2),if_pos h2]
 rw [if_neg (fun h=>h2 (hc.1 h)),if_neg h2,Two.dies_dsk]
 obtain ⟨g1,g2,g3⟩:=Two.dies_same T
 obtain ⟨⟨E,x⟩,hE⟩:∃ p,p=T.dies:=⟨_,rfl⟩
 rw [←hE] at g1 g2 g3 ⊢
 simp only at g1 g2 g3 ⊢
 cases x with
 | true=>rfl
 | false =>
  simp only [Bool.false_eq_true,if_false]
  obtain ⟨c,a,b,de,fu⟩:=E
  simp only at g1 g2 g3
  subst g1 g2 g3
  rw [show ({ cap:=T.cap,a:=T.a,b:=T.b,dead:=de,fuse:=fu:Two }).dsk.files=fileOf laidN T.a++fileOf freshN T.b from rfl,place_f]
  cases ha:T.a with
  | none=>cases hb:T.b<;>simp [Two.dsk,fileOf,more,M.put]
  | some x=>cases hb:T.b<;>simp [Two.dsk,fileOf,more,M.put,bfl]
theorem Two.changed_dsk (T:Two) (nm new:ByteArray) (hn:M.okName new=true) (p:Option Nat) (hp:M.place T.dsk.files nm=p):T.dsk.changed nm new=if T.dead=true then (T.dsk,0,10) else match p with
  | none=>(T.dsk,0,7)
  | some i=>if T.dies.2=true then (T.dies.1.dsk,0,10) else (T.dies.1.dsk,i,0):=by
 unfold M.Dsk.changed
 rw [hp,hn,Two.dies_dsk]
 by_cases h1:T.dead=true
 ·rw [if_pos (show T.dsk.dead=true from h1),if_pos h1]
 rw [if_neg (show ¬T.dsk.dead=true from h1),if_neg h1]
 cases p with
 | none=>rfl
 | some i =>
  simp only [Bool.true_eq_false,if_false]
  cases T.dies.2<;>rfl
theorem Two.syncL_dsk (T:Two):T.dsk.sync laidN=(T.syncL.1.dsk,T.syncL.2):=by
 unfold M.Dsk.sync Two.syncL Two.change
 rw [Two.changed_dsk T laidN M.one ok1 _ (place_l T.a T.b)]
 by_cases h1:T.dead=true
 ·rw [if_pos h1,if_pos h1];rfl
 rw [if_neg h1,if_neg h1]
 obtain ⟨g1,g2,g3⟩:=Two.dies_same T
 cases ha:T.a with
 | none=>simp
 | some x =>
  simp only [Option.map_some,Option.isSome_some,Bool.true_eq_false,if_false]
  by_cases h2:T.dies.2=true
  ·rw [if_pos h2,if_pos h2];rfl
  ·rw [if_neg h2,if_neg h2]
   simp [Two.dsk,fileOf,g2,ha,made,g1,g3]
theorem Two.syncF_dsk (T:Two):T.dsk.sync freshN=(T.syncF.1.dsk,T.syncF.2):=by
 unfold M.Dsk.sync Two.syncF Two.change
 rw [Two.changed_dsk T freshN M.one ok1 _ (place_f T.a T.b)]
 by_cases h1:T.dead=true
 ·rw [if_pos h1,if_pos h1];rfl
 rw [if_neg h1,if_neg h1]
 obtain ⟨g1,g2,g3⟩:=Two.dies_same T
 cases hb:T.b with
 | none=>simp
 | some x =>
  simp only [Option.map_some,Option.isSome_some,Bool.true_eq_false,if_false]
  by_cases h2:T.dies.2=true
  ·rw [if_pos h2,if_pos h2];rfl
  ·rw [if_neg h2,if_neg h2]
   cases ha:T.a<;>simp [Two.dsk,fileOf,g2,ha,made,g1,g3,hb]
theorem Two.drop_dsk (T:Two):T.dsk.remove freshN=(T.drop.1.dsk,T.drop.2):=by
 unfold M.Dsk.remove Two.drop Two.change
 rw [Two.changed_dsk T freshN M.one ok1 _ (place_f T.a T.b)]
 by_cases h1:T.dead=true
 ·rw [if_pos h1,if_pos h1];rfl
 rw [if_neg h1,if_neg h1]
 obtain ⟨g1,g2,g3⟩:=Two.dies_same T
 cases hb:T.b with
 | none=>simp
 | some x =>
  simp only [Option.map_some,Option.isSome_some,Bool.true_eq_false,if_false]
  by_cases h2:T.dies.2=true
  ·rw [if_pos h2,if_pos h2];rfl
  ·rw [if_neg h2,if_neg h2]
   cases ha:T.a<;>simp [Two.dsk,fileOf,g2,ha,g1,g3,hb]
theorem Two.move_dsk (T:Two):T.dsk.rename freshN laidN=(T.move.1.dsk,T.move.2):=by
 unfold M.Dsk.rename Two.move Two.change
 rw [Two.changed_dsk T freshN laidN okl _ (place_f T.a T.b)]
 by_cases h1:T.dead=true
 ·rw [if_pos h1,if_pos h1];rfl
 rw [if_neg h1,if_neg h1]
 obtain ⟨g1,g2,g3⟩:=Two.dies_same T
 have hne:(freshN.toList == laidN.toList)=false:=by rw [tl,tf];rfl
 cases hb:T.b with
 | none=>simp
 | some x =>
  simp only [Option.map_some,Option.isSome_some,Bool.true_eq_false,if_false]
  by_cases h2:T.dies.2=true
  ·rw [if_pos h2,if_pos h2];rfl
  ·rw [if_neg h2,if_neg h2]
   simp only [hne,Bool.false_eq_true,if_false]
   cases ha:T.a<;>simp [Two.dsk,fileOf,g2,ha,g1,g3,hb,M.place,nll,M.put]
theorem Two.read_dsk (T:Two):T.dsk.read laidN=if T.dead=true then ([],10) else match T.a with | none=>([],7) | some x=>(x.1,0):=by
 unfold M.Dsk.read
 by_cases h1:T.dead=true
 ·rw [if_pos (show T.dsk.dead=true from h1),if_pos h1]
 rw [if_neg (show ¬T.dsk.dead=true from h1),if_neg h1,show T.dsk.files=fileOf laidN T.a++fileOf freshN T.b from rfl,place_l]
 cases T.a<;>simp [fileOf]
end S
end Go.Proofs.YtekdenkllipehabGreatDoor
namespace Go.Proofs.YtekdenkllipehabGreatDoor.S
open Go.RowKit
structure Bld (T0 T:Two) (x:Option (List UInt8)):Prop where
 cap:T.cap=T0.cap
 a:T.a=T0.a
 b:T.b=x.map fun y=>(y,0)
 alive:T.dead=false
 fuse:T0.fuse=0→T.fuse=0
structure Died (T0 T:Two):Prop where
 cap:T.cap=T0.cap
 a:T.a=T0.a
 dead:T.dead=true
 armed:T0.fuse≠0
theorem Two.dies_alive {T:Two} (h:T.dead=false):(T.dies.2=true∧T.dies.1.dead=true)∨(T.dies.2=false∧T.dies.1.dead=false):=by
 unfold Two.dies
 by_cases hf:0<T.fuse
 ·rw [if_pos hf]
  by_cases h1:T.fuse-1=0
  ·exact Or.inl ⟨by simp [h1],by simp [h1]⟩
  ·exact Or.inr ⟨by simp [h1],by simp [h1]⟩
 ·rw [if_neg hf]
  exact Or.inr ⟨h,h⟩
theorem Two.dies_fuse {T:Two} (h:T.dead=false):(T.dies.2=true→T.fuse≠0)∧(T.fuse=0→T.dies.1.fuse=0):=by
 unfold Two.dies
 by_cases hf:0<T.fuse
 ·rw [if_pos hf]
  exact ⟨fun _=>by omega,fun e=>by omega⟩
 ·rw [if_neg hf]
  exact ⟨fun e=>(by rw [h] at e;cases e),fun e=>e⟩
theorem Bld.append {T0 T:Two} {x:Option (List UInt8)} (h:Bld T0 T x) (s:List UInt8) :
  ((T.append s).2=0∧Bld T0 (T.append s).1 (some (x.getD []++s))∧len T0.a+(x.getD []).length+s.length≤T0.cap)∨((T.append s).2=9∧(T.append s).1=T∧T0.cap<len T0.a+(x.getD []).length+s.length)∨((T.append s).2=10∧Died T0 (T.append s).1):=by
 have htot:T.total=len T0.a+(x.getD []).length:=by
  unfold Two.total
  rw [h.a,h.b]
  cases x<;>simp [len]
 unfold Two.append
 rw [if_neg (by rw [h.alive];simp),htot,h.cap]
 by_cases h1:T0.cap<len T0.a+(x.getD []).length+s.length
 ·rw [if_pos h1]
  exact Or.inr (Or.inl ⟨rfl,rfl,h1⟩)
 ·rw [if_neg h1]
  obtain ⟨g1,g2,g3⟩:=Two.dies_same T
  rcases Two.dies_alive h.alive with ⟨h2,h3⟩|⟨h2,h3⟩
  ·rw [if_pos h2]
   exact Or.inr (Or.inr ⟨rfl,g1.trans h.cap,g2.trans h.a,h3,fun e=>(Two.dies_fuse h.alive).1 h2 (h.fuse e)⟩)
  ·rw [if_neg (by rw [h2];simp)]
   refine Or.inl ⟨rfl,⟨g1.trans h.cap,g2.trans h.a,?_,h3,fun e=>(Two.dies_fuse h.alive).2 (h.fuse e)⟩,by omega⟩
   show more T.b s=_
   rw [h.b]
   cases x<;>simp [more]
theorem Bld.last {T0 T:Two} {y:List UInt8} (h:Bld T0 T (some y)) :
  (T.syncF.2=10∧Died T0 T.syncF.1)∨(T.syncF.2=0∧((T.syncF.1.move.2=10∧Died T0 T.syncF.1.move.1)∨(T.syncF.1.move.2=0∧T.syncF.1.move.1.cap=T0.cap∧T.syncF.1.move.1.a=some (y,y.length)∧T.syncF.1.move.1.b=none∧T.syncF.1.move.1.dead=false∧(T0.fuse=0→T.syncF.1.move.1.fuse=0)))):=by
 have hb:T.b=some (y,0):=h.b
 obtain ⟨g1,g2,g3⟩:=Two.dies_same T
 have hs:T.syncF=if T.dies.2=true then (T.dies.1,10) else ({ T.dies.1 with b:=made T.b },0):=by
  unfold Two.syncF Two.change
  rw [if_neg (by rw [h.alive];simp),hb]
  rfl
 rcases Two.dies_alive h.alive with ⟨h2,h3⟩|⟨h2,h3⟩
 ·rw [hs,if_pos h2]
  exact Or.inl ⟨rfl,g1.trans h.cap,g2.trans h.a,h3,fun e=>(Two.dies_fuse h.alive).1 h2 (h.fuse e)⟩
 ·rw [hs,if_neg (by rw [h2];simp)]
  refine Or.inr ⟨rfl,?_⟩
  obtain ⟨U,hU⟩:∃ U,U=({ T.dies.1 with b:=made T.b }:Two):=⟨_,rfl⟩
  have u1:U.cap=T0.cap:=by rw [hU];exact g1.trans h.cap
  have u2:U.a=T0.a:=by rw [hU];exact g2.trans h.a
  have u3:U.b=some (y,y.length):=by rw [hU,hb];rfl
  have u4:U.dead=false:=by rw [hU];exact h3
  have u5:T0.fuse=0→U.fuse=0:=fun e=>by rw [hU];exact (Two.dies_fuse h.alive).2 (h.fuse e)
  simp only
  rw [←hU]
  obtain ⟨k1,k2,k3⟩:=Two.dies_same U
  have hm:U.move=if U.dies.2=true then (U.dies.1,10) else ({ U.dies.1 with a:=U.b,b:=none },0):=by
   unfold Two.move Two.change
   rw [if_neg (by rw [u4];simp),u3]
   rfl
  rcases Two.dies_alive u4 with ⟨h5,h6⟩|⟨h5,h6⟩
  ·rw [hm,if_pos h5]
   exact Or.inl ⟨rfl,k1.trans u1,k2.trans u2,h6,fun e=>(Two.dies_fuse u4).1 h5 (u5 e)⟩
  ·rw [hm,if_neg (by rw [h5];simp)]
   exact Or.inr ⟨rfl,k1.trans u1,u3,rfl,h6,fun e=>(Two.dies_fuse u4).2 (u5 e)⟩
theorem Bld.gone {T0 T:Two} {x:Option (List UInt8)} (h:Bld T0 T x):(T.drop.2=10∧Died T0 T.drop.1)∨((T.drop.2=0∨T.drop.2=7)∧Bld T0 T.drop.1 none):=by
 obtain ⟨g1,g2,g3⟩:=Two.dies_same T
 unfold Two.drop Two.change
 rw [if_neg (by rw [h.alive];simp)]
 cases x with
 | none =>
  have hb:T.b=none:=h.b
  rw [hb]
  exact Or.inr ⟨Or.inr rfl,h.cap,h.a,hb,h.alive,h.fuse⟩
 | some y =>
  have hb:T.b=some (y,0):=h.b
  rw [hb]
  simp only [Option.isSome_some,Bool.true_eq_false,if_false]
  rcases Two.dies_alive h.alive with ⟨h2,h3⟩|⟨h2,h3⟩
  ·rw [if_pos h2]
   exact Or.inl ⟨rfl,g1.trans h.cap,g2.trans h.a,h3,fun e=>(Two.dies_fuse h.alive).1 h2 (h.fuse e)⟩
  ·rw [if_neg (by rw [h2];simp)]
   exact Or.inr ⟨Or.inl rfl,g1.trans h.cap,g2.trans h.a,rfl,h3,fun e=>(Two.dies_fuse h.alive).2 (h.fuse e)⟩
theorem Died.drop {T0 T:Two} (h:Died T0 T):T.drop=(T,10):=by
 unfold Two.drop Two.change
 rw [if_pos h.dead]
end Go.Proofs.YtekdenkllipehabGreatDoor.S
