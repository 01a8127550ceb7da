import Derived.OrdersIn
import Derived.TacticsIn
import Derived.OwnWalkIn
set_option maxRecDepth 100000
set_option maxHeartbeats 8000000
namespace Go.Proofs.YtekdenkllipehabGreatDoor
open Go.RowKit
theorem upon_round {F:Fence} {n l:Nat} {P:Program} {o:Oper} {a:Act} {K:Act→World→Prop} {Q:Exit→Act→World→Prop} {r:Result Next} (h:o.uponIn F n P a K Q r):o.uponIn (F.inRound l) n P a K Q r:=by
 cases r with
 | ok x w=>cases x<;>exact h
 | halt x w=>cases x<;>exact h
theorem any_round {F:Fence} {n l:Nat} {P:Program} {ops:Array Oper} {Q:Exit→Act→World→Prop} {md:Region.Mode} (hro:F.round=none) (hd:∀ (i:Nat) (o:Oper),ops[i]?=some o→∀ c,o.op≠.defer c) :
  ∀ (fuel:Nat) {listed:Array Bool} {a:Act} {w:World},wpAnyIn F n P md ops Q fuel listed a w→wpAnyIn (F.inRound l) n P md ops Q fuel listed a w
 | 0,_,_,_,h=>h
 | fuel+1,listed,a,w,h=>by
  refine ⟨h.1,fun i hi=>?_⟩
  have h2:=h.2 i hi
  refine wpOpIn_mono (fun a w=>any_round hro hd fuel) ?_
  unfold wpOpIn at h2 ⊢
  cases ho:ops[i]? with
  | none=>rw [ho] at h2;exact h2
  | some o =>
   rw [ho] at h2
   simp only at h2 ⊢
   split
   ·rename_i hw
    rw [if_pos hw] at h2
    unfold Oper.wpIn at h2 ⊢
    refine ⟨h2.1,?_⟩
    rw [hro,Oper.semAt_none] at h2
    rw [Fence.inRound_round,Oper.semAt_some l _ _ (hd i o ho)]
    exact upon_round h2.2
   ·rename_i hw
    rw [if_neg hw] at h2
    exact h2
def noDefer (ops:Array Oper):Bool:=ops.all fun o=>match o.op with | .defer _=>false | _=>true
theorem noDefer_spec {ops:Array Oper} (h:noDefer ops=true):∀ (i:Nat) (o:Oper),ops[i]?=some o→∀ c,o.op≠.defer c:=fun i o ho c hc=>by
 unfold noDefer at h
 rw [Array.all_eq_true] at h
 obtain ⟨hi,he⟩:=Array.getElem?_eq_some_iff.1 ho
 have:=h i hi
 rw [he,hc] at this
 cases this
theorem region_round {n l:Nat} {P:Program} {ops:Array Oper} {Q:Exit→Act→World→Prop} {id:Nat} {a:Act} {w:World} (hm:P.follows .mixedOrders=true) (hd:noDefer ops=true) (k:Nat) (hk:ops.size=k)
  (h:wpAnyIn Fence.wide n P .any ops Q k (Array.replicate k false) a w.drew):(Code.region id ops true).wpIn (Fence.wide.inRound l) n P Q a w:=
 wpIn_region_any hm (any_round rfl (noDefer_spec hd) _ (by rw [hk];exact h))
theorem yields_plain {P:Program} {ops:Array Oper} {o:Oper} {v:Value} {a:Act} (hg:o.guard=none) (hr:∀ w,(execOp a.eval o).run P w=.ok (.value v) w) (hb:∀ w,o.about P w a.eval=none):YieldsFenced P ops o v a:=
 ⟨Or.inl ⟨by simp [Region.wanted,hg],hr⟩,hb⟩
end Go.Proofs.YtekdenkllipehabGreatDoor
