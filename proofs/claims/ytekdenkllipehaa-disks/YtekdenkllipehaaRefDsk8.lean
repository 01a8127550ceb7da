/-
  The document's disk: bytes put behind a file's.
-/
import Derived.Test.YtekdenkllipehaaRefDsk7
namespace Go.Proofs.Ytekdenkllipehaa
open Go.RowKit

/-- append on a row of the call's own, as one step of a region that draws; where the row lies behind it. -/
theorem step_append_at {P : Program} {ops : Array Oper} {o : Oper} {a : Act} {w : World} {K : Act → World → Prop} {Q : Exit → Act → World → Prop} {E : Prop}
    (hg : o.guard = none) (s x : Operand) (t : TypeId) (hop : o.op = Op.call { callee := Callee.builtin Builtin.append, args := #[s, x], argTypes := #[t, t] })
    (base : Nat) (e : TypeId) (i : TypeInfo) (z : Value) (size bytes : Nat) (h1 : P.underlying t = some (.slice e)) (h2 : P.info? e = some i) (h3 : i.zero = some z) (h4 : i.size = size) (h5 : i.bytes = bytes) (h6 : z.cells.size = size) (h7 : 0 < size)
    (v : Value) (n : Nat) (xs : List Value) (hs : a.eval s = v) (hown : w.ownsRow base e size v n xs)
    (ad : Addr) (m c : Nat) (news : List Value) (hx : a.eval x = .slice (some ad) m c) (hn : news.length = m * size) (hc : ∀ j u, news[j]? = some u → w.cell? (ad.add j) = some u) (h1c : ∀ u ∈ news, u.oneCell' = true)
    (hm : 0 < m) (b1 : n + m ≤ maxLen) (b2 : (n + m) * bytes ≤ 140737488355328) (hb : base ≤ w.heap.size)
    (hK : ∀ v' w', w'.ownsRow base e size v' (n + m) (xs ++ news) → w.grownBy w' v.ownBlock → (v'.ownBlock = v.ownBlock ∨ v'.ownBlock = some w.heap.size) → K (a.put o.dst v') w') :
    if Region.wanted o (yielded ops a.tmps) = true then Oper.wp P o a w K Q else E := by
  have hw : Region.wanted o (yielded ops a.tmps) = true := by simp [Region.wanted, hg]
  rw [if_pos hw]
  obtain ⟨v', w', hrun, r1, r2, _⟩ := run_append_own (P := P) w base t o.type e i z size bytes h1 h2 h3 h4 h5 h6 h7 v n xs hown ad m c news hn hc h1c b1 b2 hb
  have r3 := append_where (ty := o.type) h1 h2 h3 h4 h5 hown hn hc h1c hm b1 b2 hrun
  unfold Oper.wp
  simp [execOp, hop, resolve, invoke, builtin, hs, hx, hrun, Result.andThen]
  exact hK v' w' r1 r2 r3

/-- One byte more behind a file's. -/
theorem FileAt.push {w w' : World} {tg : Tags} {o p id : Nat} {f : M.Fil} {bo ao : Option Addr} {bc cap : Nat} (h : FileAt w tg o p id f bo bc) (b : UInt8) (ob : Obj)
    (hg : (w.alloc ob).grownBy w' (Value.slice bo f.bytes.length bc).ownBlock)
    (ho : w'.ownsRow 0 5 1 (.slice ao (f.bytes.length + 1) cap) (f.bytes.length + 1) (byteVals f.bytes ++ [.int .u8 (b.toNat : Int)]))
    (hw : (Value.slice ao (f.bytes.length + 1) cap).ownBlock = (Value.slice bo f.bytes.length bc).ownBlock ∨ (Value.slice ao (f.bytes.length + 1) cap).ownBlock = some (w.alloc ob).heap.size)
    (hnew : tg (w.alloc ob).heap.size = (o, 3 + 2 * id)) :
    FileAt (w'.setCell ⟨p, 1, none⟩ (.slice ao (f.bytes.length + 1) cap)) tg o p id { f with bytes := f.bytes ++ [b] } ao cap := by
  have hpne : ∀ g, (Value.slice bo f.bytes.length bc).ownBlock = some g → g ≠ p := fun g hgb e => by
    have h1 := h.tb g hgb
    rw [e, h.tp] at h1
    simp only [Prod.mk.injEq, true_and] at h1
    omega
  have hpb : w'.heap[p]? = w.heap[p]? := (hg.block p (by simp; have := h.top; omega) (fun e => hpne p e.symm rfl)).trans (heap_alloc_old w ob h.top)
  have k0 := (World.cell?_of_block (a := ⟨p, 0, none⟩) hpb).trans h.c0
  have k1 := (World.cell?_of_block (a := ⟨p, 1, none⟩) hpb).trans h.c1
  have k2 := (World.cell?_of_block (a := ⟨p, 2, none⟩) hpb).trans h.c2
  have htb : ∀ g, (Value.slice ao (f.bytes.length + 1) cap).ownBlock = some g → tg g = (o, 3 + 2 * id) := fun g hgb => by
    rcases hw with e | e
    · rw [e] at hgb; exact h.tb g hgb
    · rw [e] at hgb
      obtain rfl := Option.some.inj hgb
      exact hnew
  have hlen : (f.bytes ++ [b]).length = f.bytes.length + 1 := by simp
  refine ⟨by rw [World.cell?_setCell_other _ _ _ _ (by simp)]; exact k0, by rw [hlen]; exact World.cell?_setCell_same _ _ _ k1, by rw [World.cell?_setCell_other _ _ _ _ (by simp)]; exact k2, fun j => by rw [World.frozen?_setCell]; exact (World.frozen?_of_block (a := ⟨p, j, none⟩) hpb).trans (h.fr j), ?_, h.tp, by rw [hlen]; exact htb, ?_⟩
  · rw [hlen]
    have e : byteVals (f.bytes ++ [b]) = byteVals f.bytes ++ [.int .u8 (b.toNat : Int)] := by simp [byteVals]
    rw [e]
    refine row_keep ho (fun g hgb => heap_setCell_other w' ⟨p, 1, none⟩ g _ (fun e => ?_))
    have h1 := htb g hgb
    simp at e
    rw [e, h.tp] at h1
    simp only [Prod.mk.injEq, true_and] at h1
    omega
  · have := hg.size
    have := h.top
    simp at *
    omega
end Go.Proofs.Ytekdenkllipehaa
