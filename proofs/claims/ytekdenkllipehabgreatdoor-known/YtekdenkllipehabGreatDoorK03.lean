import Derived.Test.YtekdenkllipehabGreatDoorK01
import Derived.WalkKit
import Derived.Laws.BitsLemmas
set_option maxRecDepth 100000
set_option maxHeartbeats 8000000
namespace Go.Proofs.YtekdenkllipehabGreatDoor.M
structure Fil where
 name:ByteArray
 bytes:List UInt8
 synced:Nat
structure Dsk where
 cap:Nat
 files:List Fil
 dead:Bool
 fuse:Nat
def named (nm:ByteArray) (f:Fil):Bool:=f.name.toList == nm.toList
def place (fs:List Fil) (nm:ByteArray):Option Nat:=fs.findIdx? (named nm)
def total (fs:List Fil):Nat:=(fs.map fun f=>f.bytes.length).sum
def okName (nm:ByteArray):Bool:=decide (1≤nm.size∧nm.size≤32)
def beyond (nm:ByteArray) (x:Fil):Bool:=!(Op.bytesLess x.name.toList nm.toList || x.name.toList == nm.toList)
def put (fs:List Fil) (f:Fil):List Fil:=fs.takeWhile (fun x=>!beyond f.name x)++f::fs.dropWhile (fun x=>!beyond f.name x)
def Dsk.dies (D:Dsk):Dsk × Bool:=if 0<D.fuse then ({ D with fuse:=D.fuse-1,dead:=decide (D.fuse-1=0)},decide (D.fuse-1=0)) else (D,D.dead)
def Dsk.append (D:Dsk) (nm:ByteArray) (s:List UInt8):Dsk × Nat:=
 if D.dead=true then (D,10)
 else if okName nm=false then (D,7)
 else if D.cap<total D.files+s.length∨(place D.files nm=none∧64≤D.files.length) then (D,9)
 else match D.dies with
 | (E,true)=>(E,10)
 | (E,false) =>
  match place E.files nm with
  | some i=>({ E with files:=E.files.modify i fun f=>{ f with bytes:=f.bytes++s }},0)
  | none=>({ E with files:=put E.files ⟨nm,s,0⟩},0)
def Dsk.changed (D:Dsk) (nm new:ByteArray):Dsk × (Nat × Nat):=
 if D.dead=true then (D,0,10)
 else match place D.files nm with
 | none=>(D,0,7)
 | some i =>
  if okName new=false then (D,0,7)
  else match D.dies with
  | (E,true)=>(E,0,10)
  | (E,false)=>(E,i,0)
def one:ByteArray:=⟨#[97]⟩
def Dsk.sync (D:Dsk) (nm:ByteArray):Dsk × Nat:=
 match D.changed nm one with
 | (E,i,0)=>({ E with files:=E.files.modify i fun f=>{ f with synced:=f.bytes.length }},0)
 | (E,_,c)=>(E,c)
def Dsk.remove (D:Dsk) (nm:ByteArray):Dsk × Nat:=
 match D.changed nm one with
 | (E,i,0)=>({ E with files:=E.files.eraseIdx i },0)
 | (E,_,c)=>(E,c)
def Dsk.rename (D:Dsk) (old nm:ByteArray):Dsk × Nat:=
 match D.changed old nm with
 | (E,i,0) =>
  if old.toList == nm.toList then (E,0)
  else match E.files[i]? with
  | none=>(E,0)
  | some f =>
   let fs:=E.files.eraseIdx i
   let gs:=match place fs nm with | some k=>fs.eraseIdx k | none=>fs
   ({ E with files:=put gs { f with name:=nm }},0)
 | (E,_,c)=>(E,c)
def Dsk.read (D:Dsk) (nm:ByteArray):List UInt8 × Nat:=
 if D.dead=true then ([],10)
 else match place D.files nm with
 | none=>([],7)
 | some i=>(((D.files[i]?).map fun f=>f.bytes).getD [],0)
def Dsk.names (D:Dsk):List ByteArray:=if D.dead=true then [] else D.files.map fun f=>f.name
def stay (keep:List Int) (i loose:Nat):Nat:=match keep[i]? with | some k=>if 0<k then k.toNat % (loose+1) else 0 | none=>0
structure Dsk.Good (D:Dsk):Prop where
 cap:D.cap≤1048576
 few:D.files.length≤64
 fits:total D.files≤D.cap
 synced:∀ f∈D.files,f.synced≤f.bytes.length
 name:∀ f∈D.files,okName f.name=true
theorem total_mem:∀ {fs:List Fil} {f:Fil},f∈fs→f.bytes.length≤total fs
 | x::fs,f,h=>by
  simp only [total,List.map_cons,List.sum_cons]
  rcases List.mem_cons.1 h with rfl|h
  ·omega
  ·have:=total_mem h
   simp only [total] at this
   omega
theorem Dsk.Good.small {D:Dsk} (h:D.Good) {f:Fil} (hf:f∈D.files):f.bytes.length≤1048576:=Nat.le_trans (total_mem hf) (Nat.le_trans h.fits h.cap)
theorem place_some {fs:List Fil} {nm:ByteArray} {i:Nat} (h:place fs nm=some i):∃ f,fs[i]?=some f∧named nm f=true∧∀ k,k<i→∀ g,fs[k]?=some g→named nm g=false:=by
 unfold place at h
 rw [List.findIdx?_eq_some_iff_getElem] at h
 obtain ⟨hi,h1,h2⟩:=h
 refine ⟨fs[i],List.getElem?_eq_getElem hi,h1,fun k hk g hg=>?_⟩
 have:=h2 k hk
 rw [List.getElem?_eq_getElem (by omega)] at hg
 obtain rfl:=Option.some.inj hg
 simpa using this
theorem place_none {fs:List Fil} {nm:ByteArray} (h:place fs nm=none):∀ f∈fs,named nm f=false:=by
 unfold place at h
 rw [List.findIdx?_eq_none_iff] at h
 exact h
theorem place_at {fs:List Fil} {nm:ByteArray} {i:Nat} {f:Fil} (hi:fs[i]?=some f) (hf:named nm f=true) (hno:∀ k,k<i→∀ g,fs[k]?=some g→named nm g=false):place fs nm=some i:=by
 unfold place
 rw [List.findIdx?_eq_some_iff_getElem]
 obtain ⟨hl,rfl⟩:=List.getElem?_eq_some_iff.1 hi
 exact ⟨hl,hf,fun j hj=>by simpa using hno j hj _ (List.getElem?_eq_getElem (by omega))⟩
theorem place_not {fs:List Fil} {nm:ByteArray} (h:∀ (k:Nat) (g:Fil),fs[k]?=some g→named nm g=false):place fs nm=none:=by
 unfold place
 rw [List.findIdx?_eq_none_iff]
 intro f hf
 obtain ⟨k,hk⟩:=List.getElem?_of_mem hf
 exact h k f hk
end Go.Proofs.YtekdenkllipehabGreatDoor.M
namespace Go.Proofs.YtekdenkllipehabGreatDoor
theorem wraps_i64 (n:Int) (h₀:0≤n) (h₁:n<2 ^ 63):IntKind.i64.wrap n=n:=by rw [IntKind.wrap_i64];omega
theorem wraps_u32 (n:Int) (h₀:0≤n) (h₁:n<2 ^ 32):IntKind.u32.wrap n=n:=by rw [IntKind.wrap_u32];omega
theorem i64_and127 (x:Int) (h₀:0≤x) (h₁:x<9223372036854775808):bits .and .i64 x 127=x % 128:=bits_mask .i64 63 (by decide) wraps_i64 7 (by decide) x h₀ (by simpa using h₁)
theorem u8_and127 (x:Int) (h₀:0≤x) (h₁:x<256):bits .and .u8 x 127=x % 128:=bits_mask .u8 8 (by decide) wraps_u8 7 (by decide) x h₀ h₁
theorem u8_or_high (x:Int) (h₀:0≤x) (h₁:x<128):bits .or .u8 x 128=x+128:=by
 obtain ⟨a,rfl⟩:=Int.eq_ofNat_of_zero_le h₀
 have h:=(bits_nat .u8 8 (by decide) wraps_u8 a 128 (by omega) (by decide)).2
 have e:a ||| 128=128+a:=by rw [Nat.or_comm];exact (Nat.two_pow_add_eq_or_of_lt (i:=7) (by omega) 1).symm
 rw [e] at h
 have h':bits .or .u8 (a:Int) 128=((128+a:Nat):Int):=h
 rw [h'];omega
theorem i64_or_sum (i:Nat) (x y:Nat) (hx:x<2 ^ i) (hy:y*2 ^ i+x<2 ^ 63):bits .or .i64 (x:Int) ((y*2 ^ i:Nat):Int)=((x+y*2 ^ i:Nat):Int):=by
 have h:=(bits_nat .i64 63 (by decide) wraps_i64 x (y*2 ^ i) (by omega) (by omega)).2
 rw [h,Nat.or_comm,Nat.mul_comm,←Nat.two_pow_add_eq_or_of_lt hx y]
 omega
theorem u32_and15 (x:Int) (h₀:0≤x) (h₁:x<4294967296):bits .and .u32 x 15=x % 16:=bits_mask .u32 32 (by decide) wraps_u32 4 (by decide) x h₀ h₁
theorem bits_xor_nat (k:IntKind) (j:Nat) (hj:j≤k.bits) (hk:∀ n:Int,0≤n→n<2 ^ j→k.wrap n=n) (a b:Nat) (ha:a<2 ^ j) (hb:b<2 ^ j) :
  bits .xor k a b=((a ^^^ b:Nat):Int):=by
 have hp:2 ^ j≤2 ^ k.bits:=Nat.pow_le_pow_right (by decide) hj
 have ha':a % 2 ^ k.bits=a:=Nat.mod_eq_of_lt (Nat.lt_of_lt_of_le ha hp)
 have hb':b % 2 ^ k.bits=b:=Nat.mod_eq_of_lt (Nat.lt_of_lt_of_le hb hp)
 have cast:∀ n:Nat,n<2 ^ j→((n:Nat):Int)<2 ^ j:=fun n h=>by exact_mod_cast h
 simp only [bits,BitVec.ofInt_natCast,BitVec.toNat_xor,BitVec.toNat_ofNat,ha',hb']
 exact hk _ (Int.natCast_nonneg _) (cast _ (Nat.xor_lt_two_pow ha hb))
theorem u32_xor (a b:Nat) (ha:a<4294967296) (hb:b<4294967296):bits .xor .u32 (a:Int) (b:Int)=((a ^^^ b:Nat):Int):=
 bits_xor_nat .u32 32 (by decide) wraps_u32 a b (by omega) (by omega)
theorem ones_xor (c:Nat) (h:c<4294967296):4294967295 ^^^ c=4294967295-c:=by
 have h1:(BitVec.allOnes 32 ^^^ BitVec.ofNat 32 c).toNat=(~~~ BitVec.ofNat 32 c).toNat:=by rw [BitVec.allOnes_xor]
 rw [BitVec.toNat_xor,BitVec.toNat_allOnes,BitVec.toNat_not,BitVec.toNat_ofNat,Nat.mod_eq_of_lt (by omega)] at h1
 exact h1
theorem turned (c:Nat) (h:c<4294967296):Go.RowKit.wrap64 (bits .xor .u32 IntKind.u32.max (c:Int))=((4294967295-c:Nat):Int):=by
 have e:IntKind.u32.max=((4294967295:Nat):Int):=rfl
 rw [e,u32_xor 4294967295 c (by omega) h,ones_xor c h]
 unfold Go.RowKit.wrap64;omega
end Go.Proofs.YtekdenkllipehabGreatDoor
namespace Go.Proofs.YtekdenkllipehabGreatDoor
open Go.RowKit
theorem wrap64_nat (y:Nat) (h:y<9223372036854775808):wrap64 (y:Int)=(y:Int):=by unfold wrap64;omega
theorem shift_nat (x k:Nat):(x:Int)*2 ^ (7*k)=((x*2 ^ (7*k):Nat):Int):=by rw [Int.natCast_mul,Int.natCast_pow];rfl
theorem lt63 {a b c:Nat} (h:a+b=c) (hc:c<72057594037927936):b+a<2 ^ 63:=by
 have h63:(2:Nat) ^ 63=9223372036854775808:=by decide
 rw [h63];omega
theorem le63 {a b c:Nat} (h:a+b=c) (hc:c<72057594037927936):b<9223372036854775808:=by omega
theorem or_step {D:List UInt8} {k:Nat} {b:UInt8} (hb:D[k]?=some b) (hk:k<8) :
  bits .or .i64 (M.val (D.take k):Int) (wrap64 (wrap64 (bits .and .u8 (b.toNat:Int) 127)*2 ^ (7*k)))=(M.val (D.take (k+1)):Int):=by
 have hl:k<D.length:=(List.getElem?_eq_some_iff.1 hb).1
 have h1:=M.val_take_lt (D:=D) (k:=k) (Nat.le_of_lt hl)
 have h2:=M.val_take_small (D:=D) (k:=k+1) hl hk
 have h3:=M.val_step hb
 have hb2:=b.toNat_lt
 have e1:wrap64 (bits .and .u8 (b.toNat:Int) 127)=((b.toNat % 128:Nat):Int):=by
  rw [u8_and127 _ (by omega) (by omega)];exact wrap64_nat (b.toNat % 128) (by omega)
 rw [e1,shift_nat,wrap64_nat _ (le63 h3.symm h2),i64_or_sum (7*k) _ _ h1 (lt63 h3.symm h2),h3]
def told (o:Option (Nat × Nat)) (a:Nat):Ending:=
 match o with
 | none=>.returned (.tuple #[.int .i64 0,.int .i64 0,.int .i64 2])
 | some (v,k)=>.returned (.tuple #[.int .i64 v,.int .i64 ((a+k:Nat):Int),.int .i64 0])
theorem told_none {D:List UInt8} {a:Nat} (h:M.rd 8 [] D=none):Ending.returned (.tuple #[.int .i64 0,.int .i64 0,.int .i64 2])=told (M.rd 8 [] D) a:=by rw [h];rfl
theorem told_hit {D:List UInt8} {k a:Nat} {b:UInt8} {x y:Int} (hF:M.Far D k) (hk:k<8) (hb:D[k]?=some b) (h1:b.toNat<128) (h0:¬b.toNat=0∨¬0<k) (hx:x=(M.val (D.take (k+1)):Int)) (hy:y=(a:Int)+(k:Int)+1) :
  Ending.returned (.tuple #[.int .i64 x,.int .i64 y,.int .i64 0])=told (M.rd 8 [] D) a:=by
 subst hx hy
 rw [M.rd_hit hF hk hb h1 (by
  rcases h0 with h0|h0
  ·left;rintro rfl;exact h0 rfl
  ·right;omega)]
 show _=Ending.returned (.tuple #[.int .i64 _,.int .i64 ((a+(k+1):Nat):Int),.int .i64 0])
 rw [show (a:Int)+(k:Int)+1=((a+(k+1):Nat):Int) by omega]
theorem byteAt (s:ByteArray) (a k:Nat) (h:a+k<s.size):(s.data.toList.drop a)[k]?=some s[a+k]:=by
 rw [List.getElem?_drop,List.getElem?_eq_getElem (by simpa using h)];rfl
end Go.Proofs.YtekdenkllipehabGreatDoor
namespace Go.Proofs.YtekdenkllipehabGreatDoor
open Go.RowKit
namespace M
def cat (P:List ByteArray):List UInt8:=P.flatMap fun p=>p.data.toList
theorem cat_append (A B:List ByteArray):cat (A++B)=cat A++cat B:=by simp [cat]
theorem cat_one (p:ByteArray):cat [p]=p.data.toList:=by simp [cat]
theorem take_succ {α:Type} {L:List α} {k:Nat} {s:α} (h:L[k]?=some s):L.take (k+1)=L.take k++[s]:=by
 rw [List.take_add_one,h];rfl
theorem cat_take {P:List ByteArray} {k:Nat} {s:ByteArray} (h:P[k]?=some s):cat (P.take (k+1))=cat (P.take k)++s.data.toList:=by
 rw [take_succ h,cat_append,cat_one]
end M
end Go.Proofs.YtekdenkllipehabGreatDoor
namespace Go.Proofs.YtekdenkllipehabGreatDoor.M
structure St where
 put:ByteArray
 place:Nat
 size:Nat
def St.acc (s:St):List Nat:=if s.put.size=0 then taken s.place s.size else s.put.data.toList.map UInt8.toNat
def St.Good (s:St):Prop:=(s.put.size=0∧1≤s.size∧s.size≤4096∧s.place+s.size≤72057594037927935)∨(s.put.size≠0∧s.size=s.put.size∧s.place=0∧s.size≤4096)
theorem St.Good.pos {s:St} (h:s.Good):1≤s.size∧s.size≤4096∧s.place+s.size≤72057594037927935:=by
 rcases h with h|h
 ·exact ⟨h.2.1,h.2.2.1,h.2.2.2⟩
 ·omega
theorem St.acc_length {s:St} (h:s.Good):s.acc.length=s.size:=by
 unfold St.acc
 rcases h with h|h
 ·rw [if_pos h.1,taken_length]
 ·rw [if_neg h.1];simp;exact h.2.1.symm
def flat (L:List St):List Nat:=L.flatMap St.acc
def tot:List St→Nat
 | []=>0
 | s::L=>s.size+tot L
theorem flat_append (A B:List St):flat (A++B)=flat A++flat B:=by simp [flat]
theorem flat_one (s:St):flat [s]=s.acc:=by simp [flat]
theorem flat_cons (s:St) (L:List St):flat (s::L)=s.acc++flat L:=by simp [flat]
theorem tot_append (A B:List St):tot (A++B)=tot A+tot B:=by
 induction A with
 | nil=>simp [tot]
 | cons s A ih=>simp [tot,ih];omega
theorem tot_one (s:St):tot [s]=s.size:=by simp [tot]
theorem tot_take {L:List St} {k:Nat} {s:St} (h:L[k]?=some s):tot (L.take (k+1))=tot (L.take k)+s.size:=by
 rw [take_succ h,tot_append,tot_one]
theorem flat_take {L:List St} {k:Nat} {s:St} (h:L[k]?=some s):flat (L.take (k+1))=flat (L.take k)++s.acc:=by
 rw [take_succ h,flat_append,flat_one]
def Goods (L:List St):Prop:=∀ s∈L,s.Good
theorem Goods.nil:Goods []:=fun s h=>by simp at h
theorem Goods.append {A B:List St} (a:Goods A) (b:Goods B):Goods (A++B):=fun s h=>by
 rcases List.mem_append.1 h with h|h
 ·exact a s h
 ·exact b s h
theorem Goods.one {s:St} (h:s.Good):Goods [s]:=fun t ht=>by simp at ht;subst ht;exact h
theorem Goods.get {L:List St} (h:Goods L) {k:Nat} {s:St} (hs:L[k]?=some s):s.Good:=h s (List.mem_of_getElem? hs)
theorem Goods.take {L:List St} (h:Goods L) (k:Nat):Goods (L.take k):=fun s hs=>h s (List.mem_of_mem_take hs)
theorem Goods.drop {L:List St} (h:Goods L) (k:Nat):Goods (L.drop k):=fun s hs=>h s (List.mem_of_mem_drop hs)
theorem flat_length {L:List St} (h:Goods L):(flat L).length=tot L:=by
 induction L with
 | nil=>rfl
 | cons s L ih =>
  rw [flat_cons,List.length_append,St.acc_length (h s (by simp)),ih fun t ht=>h t (by simp [ht])];rfl
theorem length_le_tot {L:List St} (h:Goods L):L.length≤tot L:=by
 induction L with
 | nil=>simp [tot]
 | cons s L ih =>
  have:=(h s (by simp)).pos
  have:=ih fun t ht=>h t (by simp [ht])
  simp [tot];omega
theorem tot_take_le (L:List St) (k:Nat):tot (L.take k)≤tot L:=by
 have:tot L=tot (L.take k)+tot (L.drop k):=by rw [←tot_append,List.take_append_drop]
 omega
theorem tot_split (L:List St) (k:Nat):tot L=tot (L.take k)+tot (L.drop k):=by rw [←tot_append,List.take_append_drop]
theorem reach_append (a b:List Nat):reach (a++b)=max (reach a) (reach b):=by
 unfold reach
 rw [List.foldl_append,foldl_reach]
 rfl
theorem reach_taken (p:Nat):∀ n,1≤n→reach (taken p n)=p+n
 | 0,h=>by omega
 | n+1,_=>by
  rw [taken_succ,reach_snoc]
  by_cases h:n=0
  ·subst h;simp [taken,reach];omega
  ·rw [reach_taken p n (by omega)];omega
theorem reach_bytes (l:List UInt8):reach (l.map UInt8.toNat)=0:=by
 have:=reach_le (acc:=l.map UInt8.toNat) (n:=0) fun x hx=>by
  simp only [List.mem_map] at hx
  obtain ⟨b,_,rfl⟩:=hx
  have:=b.toNat_lt
  omega
 omega
theorem reach_acc {s:St} (h:s.Good):reach s.acc=if s.put.size=0 then s.place+s.size else 0:=by
 unfold St.acc
 by_cases h0:s.put.size=0
 ·rw [if_pos h0,if_pos h0,reach_taken _ _ h.pos.1]
 ·rw [if_neg h0,if_neg h0,reach_bytes]
theorem reach_take_st {L:List St} (h:Goods L) {k:Nat} {s:St} (hs:L[k]?=some s):reach (flat (L.take (k+1)))=max (reach (flat (L.take k))) (if s.put.size=0 then s.place+s.size else 0):=by
 rw [flat_take hs,reach_append,reach_acc (h.get hs)]
theorem made_append (a b:List Nat) (base:List UInt8):made (a++b) base=made a base++made b base:=by simp [made]
theorem made_bytes (l:List UInt8) (base:List UInt8):made (l.map UInt8.toNat) base=l:=by
 unfold made
 rw [List.map_map]
 conv=>rhs;rw [←List.map_id l]
 apply List.map_congr_left
 intro b _
 have:=b.toNat_lt
 simp only [Function.comp]
 rw [if_neg (by omega)]
 simp
theorem made_taken (p:Nat) (base:List UInt8):∀ n,p+n≤base.length→made (taken p n) base=(base.drop p).take n
 | 0,_=>by simp [taken,made]
 | n+1,h=>by
  rw [taken_succ,made_append,made_taken p base n (by omega)]
  have hb:(base.drop p)[n]?=some base[p+n]:=by rw [List.getElem?_drop,List.getElem?_eq_getElem (by omega)]
  rw [List.take_add_one,hb]
  simp only [made,List.map_cons,List.map_nil]
  rw [if_pos (by omega),show 256+p+n-256=p+n by omega]
  simp [List.getElem?_eq_getElem (show p+n<base.length by omega)]
def St.text (s:St) (base:ByteArray):ByteArray:=if s.put.size=0 then base.extract s.place (s.place+s.size) else s.put
theorem made_acc (s:St) (base:ByteArray) (hr:s.put.size=0→s.place+s.size≤base.size):made s.acc base.data.toList=(s.text base).data.toList:=by
 unfold St.acc St.text
 by_cases h0:s.put.size=0
 ·rw [if_pos h0,if_pos h0,made_taken _ _ _ (by simpa using hr h0)]
  simp
 ·rw [if_neg h0,if_neg h0,made_bytes]
def Wr (T:List UInt8) (acc:List Nat):Prop:=∀ (pre post:List UInt8) (size:Nat) (r:Option (List Nat)),acc.length≤size →
  At (pre++(T++post)) size r pre.length []→At (pre++(T++post)) size r (pre.length+T.length) acc
theorem Wr.nil:Wr [] []:=by
 intro pre post size r _ ha
 simpa using ha
theorem Wr.put {T:List UInt8} {acc:List Nat} (h:Wr T acc) (bs:List UInt8) (h1:1≤bs.length) (h2:bs.length≤4096):Wr (T++(enc 7 (2*bs.length)++bs)) (acc++bs.map UInt8.toNat):=by
 intro pre post size r hl ha
 rw [List.length_append,List.length_map] at hl
 rw [List.append_assoc] at ha ⊢
 have hA:=h pre (enc 7 (2*bs.length)++bs++post) size r (by omega) ha
 have he:=enc_pos 7 (2*bs.length)
 have hlist:pre++(T++(enc 7 (2*bs.length)++bs++post))=(pre++T)++(enc 7 (2*bs.length)++(bs++post)):=by simp
 have hg:=getAt_enc (pre++T) (bs++post) (2*bs.length) (by omega)
 rw [←hlist,List.length_append] at hg
 rw [show pre.length+(T++(enc 7 (2*bs.length)++bs)).length=pre.length+T.length+(enc 7 (2*bs.length)).length+bs.length by simp;omega]
 refine at_step hA (by simp;omega) ?_
 unfold stepAt
 rw [hg]
 simp only
 rw [if_neg (by omega),if_neg (by omega),show 2*bs.length / 2=bs.length by omega,if_pos (by simp;omega)]
 congr 2
 unfold M.putB
 rw [hlist,show (pre++T)++(enc 7 (2*bs.length)++(bs++post))=((pre++T)++enc 7 (2*bs.length))++(bs++post) by simp]
 rw [show pre.length+T.length+(enc 7 (2*bs.length)).length=((pre++T)++enc 7 (2*bs.length)).length by simp;omega,List.drop_left,List.take_left]
theorem Wr.take {T:List UInt8} {acc:List Nat} (h:Wr T acc) (p n:Nat) (h1:1≤n) (h2:n≤4096) (h3:p+n≤72057594037927935):Wr (T++(enc 7 (2*n+1)++enc 7 p)) (acc++taken p n):=by
 intro pre post size r hl ha
 rw [List.length_append,taken_length] at hl
 rw [List.append_assoc] at ha ⊢
 have hA:=h pre (enc 7 (2*n+1)++enc 7 p++post) size r (by omega) ha
 have he:=enc_pos 7 (2*n+1)
 have hlist:pre++(T++(enc 7 (2*n+1)++enc 7 p++post))=(pre++T)++(enc 7 (2*n+1)++(enc 7 p++post)):=by simp
 have hlist2:pre++(T++(enc 7 (2*n+1)++enc 7 p++post))=((pre++T)++enc 7 (2*n+1))++(enc 7 p++post):=by simp
 have hg:=getAt_enc (pre++T) (enc 7 p++post) (2*n+1) (by omega)
 rw [←hlist,List.length_append] at hg
 have hg2:=getAt_enc ((pre++T)++enc 7 (2*n+1)) post p (by omega)
 rw [←hlist2,List.length_append,List.length_append] at hg2
 rw [show pre.length+(T++(enc 7 (2*n+1)++enc 7 p)).length=pre.length+T.length+(enc 7 (2*n+1)).length+(enc 7 p).length by simp;omega]
 refine at_step hA (by simp;omega) ?_
 unfold stepAt
 rw [hg]
 simp only
 rw [if_neg (by omega),if_pos (by omega),hg2]
 simp only
 rw [show (2*n+1) / 2=n by omega,if_neg (by omega)]
theorem parse_wr {T:List UInt8} {acc:List Nat} (h:Wr T acc) (hl:acc.length≤4096):parse (enc 7 acc.length++T)=some (acc.length,acc):=by
 have hg:=getAt_enc [] T acc.length (by omega)
 simp only [List.nil_append,List.length_nil,Nat.zero_add] at hg
 unfold parse
 rw [hg]
 simp only
 rw [if_neg (by omega)]
 have hs:=at_start (enc 7 acc.length++T) acc.length (enc 7 acc.length).length (by simp)
 have hr:=h (enc 7 acc.length) [] acc.length _ (Nat.le_refl _) (by rw [List.append_nil];exact hs)
 rw [List.append_nil] at hr
 have:=at_end hr (by simp)
 rw [this]
 simp
theorem enc_one {n:Nat} (h:n<128):(enc 7 n).length=1:=by rw [enc_small 7 n h];rfl
theorem enc_two {n:Nat} (h:n<16384):(enc 7 n).length≤2:=by
 by_cases h1:n<128
 ·rw [enc_one h1];omega
 ·rw [enc_big 6 n h1,enc_small 6 _ (by omega)];simp
theorem enc_len_le:∀ (f n:Nat),(enc f n).length≤f+1
 | 0,n=>by simp [enc]
 | f+1,n=>by
  simp only [enc]
  split
  ·simp
  ·simp only [List.length_cons];have:=enc_len_le f (n / 128);omega
theorem enc_len (n:Nat):(enc 7 n).length≤8:=enc_len_le 7 n
def St.cost (s:St):Nat:=if s.put.size=0 then (enc 7 (2*s.size+1)).length+(enc 7 s.place).length else (enc 7 (2*s.size)).length+s.put.size
def cost:List St→Nat
 | []=>0
 | s::L=>s.cost+cost L
theorem cost_append (A B:List St):cost (A++B)=cost A+cost B:=by
 induction A with
 | nil=>simp [cost]
 | cons s A ih=>simp [cost,ih];omega
theorem cost_one (s:St):cost [s]=s.cost:=by simp [cost]
def Leads (s t:St):Prop:=if s.put.size=0∧t.put.size=0 then s.place+s.size=t.place else s.put.size≠0∧t.put.size≠0
def Chain:List St→Prop
 | []=>True
 | [_]=>True
 | s::t::L=>Leads s t∧Chain (t::L)
theorem chain_puts:∀ (s:St) (L:List St),Chain (s::L)→s.put.size≠0→∀ t∈s::L,t.put.size≠0
 | s,[],_,h,t,ht=>by simp at ht;subst ht;exact h
 | s,u::L,hc,h,t,ht=>by
  have hl:=hc.1
  unfold Leads at hl
  rw [if_neg (by intro e;exact h e.1)] at hl
  rcases List.mem_cons.1 ht with rfl|ht
  ·exact h
  ·exact chain_puts u L hc.2 hl.2 t ht
theorem taken_append (p a b:Nat):taken p (a+b)=taken p a++taken (p+a) b:=by
 induction b with
 | zero=>simp [taken]
 | succ b ih=>rw [←Nat.add_assoc,taken_succ,ih,taken_succ,List.append_assoc];congr 3;omega
theorem chain_takes:∀ (s:St) (L:List St),Chain (s::L)→Goods (s::L)→s.put.size=0→(∀ t∈s::L,t.put.size=0)∧flat (s::L)=taken s.place (tot (s::L))∧s.place+tot (s::L)≤72057594037927935
 | s,[],_,hg,h=>by
  refine ⟨fun t ht=>by simp at ht;subst ht;exact h,?_,?_⟩
  ·rw [flat_one,tot_one,St.acc,if_pos h]
  ·rw [tot_one];exact (hg s (by simp)).pos.2.2
 | s,u::L,hc,hg,h=>by
  have hl:=hc.1
  have hu:u.put.size=0:=by
   rcases Nat.eq_zero_or_pos u.put.size with e|e
   ·exact e
   ·unfold Leads at hl;rw [if_neg (by omega)] at hl;exact absurd h hl.1
  unfold Leads at hl
  rw [if_pos ⟨h,hu⟩] at hl
  obtain ⟨i1,i2,i3⟩:=chain_takes u L hc.2 (fun t ht=>hg t (by simp [ht])) hu
  refine ⟨fun t ht=>?_,?_,?_⟩
  ·rcases List.mem_cons.1 ht with rfl|ht
   ·exact h
   ·exact i1 t ht
  ·rw [flat_cons,i2,St.acc,if_pos h,←hl];show _=taken s.place (s.size+tot (u::L));rw [taken_append]
  ·show s.place+(s.size+tot (u::L))≤_;omega
def puts (L:List St):List UInt8:=L.flatMap fun s=>s.put.data.toList
theorem puts_none {L:List St} (h:∀ t∈L,t.put.size=0):puts L=[]:=by
 induction L with
 | nil=>rfl
 | cons s L ih =>
  have h1:=h s (by simp)
  have h2:s.put.data.toList=[]:=List.eq_nil_of_length_eq_zero (by simpa using h1)
  show s.put.data.toList++puts L=[]
  rw [h2,ih fun t ht=>h t (by simp [ht])];rfl
theorem puts_all {L:List St} (hg:Goods L) (h:∀ t∈L,t.put.size≠0):flat L=(puts L).map UInt8.toNat∧(puts L).length=tot L:=by
 induction L with
 | nil=>exact ⟨rfl,rfl⟩
 | cons s L ih =>
  obtain ⟨i1,i2⟩:=ih (fun t ht=>hg t (by simp [ht])) fun t ht=>h t (by simp [ht])
  have h1:=h s (by simp)
  have hs:s.size=s.put.size:=by
   rcases hg s (by simp) with e|e
   ·exact absurd e.1 h1
   ·exact e.2.1
  have e:puts (s::L)=s.put.data.toList++puts L:=rfl
  refine ⟨?_,?_⟩
  ·rw [flat_cons,i1,St.acc,if_neg h1,e,List.map_append]
  ·rw [e,List.length_append,i2];simp [tot];omega
def headOf (L:List St):List UInt8:=
 match L with
 | []=>[]
 | s::_=>if s.put.size=0 then enc 7 (2*tot L+1)++enc 7 s.place else enc 7 (2*tot L)
theorem cost_puts:∀ {L:List St},(∀ t∈L,t.put.size≠0)→L.length+(puts L).length≤cost L
 | [],_=>by simp [puts,cost]
 | s::L,h=>by
  have ih:=cost_puts (L:=L) fun t ht=>h t (by simp [ht])
  have h1:=h s (by simp)
  have e:puts (s::L)=s.put.data.toList++puts L:=rfl
  have hp:=enc_pos 7 (2*s.size)
  rw [e]
  simp only [List.length_append,List.length_cons,cost]
  unfold St.cost
  rw [if_neg h1]
  simp;omega
theorem cost_takes:∀ {L:List St},(∀ t∈L,t.put.size=0)→2*L.length≤cost L
 | [],_=>by simp [cost]
 | s::L,h=>by
  have ih:=cost_takes (L:=L) fun t ht=>h t (by simp [ht])
  have h1:=h s (by simp)
  have hp:=enc_pos 7 (2*s.size+1)
  have hq:=enc_pos 7 s.place
  simp only [List.length_cons,cost]
  unfold St.cost
  rw [if_pos h1]
  omega
theorem chain_wr {T:List UInt8} {acc:List Nat} (h:Wr T acc) (s:St) (L:List St) (hc:Chain (s::L)) (hg:Goods (s::L)) (ht:tot (s::L)≤4096) :
  Wr (T++(headOf (s::L)++puts (s::L))) (acc++flat (s::L))∧(headOf (s::L)++puts (s::L)).length≤cost (s::L):=by
 have hpos:=(hg s (by simp)).pos
 have htp:1≤tot (s::L):=by simp only [tot];omega
 by_cases h0:s.put.size=0
 ·obtain ⟨i1,i2,i3⟩:=chain_takes s L hc hg h0
  rw [puts_none i1,List.append_nil,i2]
  simp only [headOf,if_pos h0]
  refine ⟨Wr.take h s.place _ htp ht i3,?_⟩
  cases L with
  | nil=>simp [cost,St.cost,h0,tot]
  | cons u L =>
   have hu:=cost_takes (L:=u::L) fun t ht=>i1 t (by simp [ht])
   have e2:=enc_two (n:=2*tot (s::u::L)+1) (by omega)
   have hp:=enc_pos 7 (2*s.size+1)
   have:cost (s::u::L)=s.cost+cost (u::L):=rfl
   rw [this,List.length_append]
   unfold St.cost
   rw [if_pos h0]
   simp at hu
   omega
 ·have i1:=chain_puts s L hc h0
  obtain ⟨i2,i3⟩:=puts_all hg i1
  simp only [headOf,if_neg h0]
  rw [i2,←i3]
  refine ⟨Wr.put h _ (by omega) (by omega),?_⟩
  cases L with
  | nil =>
   simp [cost,St.cost,h0,puts]
   rcases hg s (by simp) with e|e
   ·exact absurd e.1 h0
   ·rw [e.2.1];simp
  | cons u L =>
   have hu:=cost_puts (L:=s::u::L) i1
   have e2:=enc_two (n:=2*(puts (s::u::L)).length) (by omega)
   simp at hu
   rw [List.length_append]
   omega
theorem chain_snoc {A:List St} {s t:St} (h:Chain (A++[s])) (hl:Leads s t):Chain (A++[s]++[t]):=by
 induction A with
 | nil=>exact ⟨hl,trivial⟩
 | cons a A ih =>
  cases A with
  | nil=>exact ⟨h.1,hl,trivial⟩
  | cons b A=>exact ⟨h.1,ih h.2⟩
theorem chain_take {L:List St} {k:Nat} {s t:St} (h:Chain (L.take (k+1))) (hs:L[k]?=some s) (ht:L[k+1]?=some t) (hl:Leads s t):Chain (L.take (k+2)):=by
 rw [take_succ ht,take_succ hs]
 rw [take_succ hs] at h
 exact chain_snoc h hl
end Go.Proofs.YtekdenkllipehabGreatDoor.M
namespace Go.Proofs.YtekdenkllipehabGreatDoor
open Go.RowKit
def applied (r:Option (Nat × List Nat)) (base:List UInt8):Option (List UInt8):=
 match r with
 | none=>none
 | some (_,acc)=>if base.length<M.reach acc then none else some (M.made acc base)
def appliedEnd (o:Option (List UInt8)):Ending:=
 match o with
 | none=>.returned (.tuple #[.string ⟨#[]⟩,.int .i64 5])
 | some t=>.returned (.tuple #[.string ⟨t.toArray⟩,.int .i64 0])
end Go.Proofs.YtekdenkllipehabGreatDoor
