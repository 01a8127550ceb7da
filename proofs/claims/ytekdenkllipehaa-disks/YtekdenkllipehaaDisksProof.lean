import Derived.Test.YtekdenkllipehaaYUpTo
import Derived.Deep.Slices
import Derived.SizedLaws
import Derived.WalkKit
import Derived.ProofKit
import Derived.OpenShut
import Derived.ShutString
import Derived.Carry
/-
  A script that came in.
-/
namespace Go.Proofs.Ytekdenkllipehaa
open Go.RowKit Go.Deep Go.ChangeShapes Go.WideShapes

theorem cellsDOp : Try.prog.cellsOf 65 = 7 := by kernel_rfl
theorem cellsStr' : Try.prog.cellsOf 9 = 1 := by kernel_rfl
theorem cellsInt' : Try.prog.cellsOf 3 = 1 := by kernel_rfl
theorem cellsInts' : Try.prog.cellsOf 31 = 1 := by kernel_rfl
theorem bytesDOp : Try.prog.bytesOf 65 = 88 := by kernel_rfl
theorem bytesInt' : Try.prog.bytesOf 3 = 8 := by kernel_rfl

/-- A row of numbers as a datum. -/
def NumsDat {H : Type} (ks : List Int) (d : DataW H) : Prop := (ks = [] ∧ d = .nil) ∨ ∃ sp, d = .slice (ks.map fun x => .lit (.int .i64 x)) sp

/-- A row of numbers in memory. -/
def NumsAt (W : World) (ko : Option Addr) (ks : List Int) : Prop :=
  (ko = none → ks = []) ∧ ∀ j x, ks[j]? = some x → ∃ b off, ko = some ⟨b, off, none⟩ ∧ W.cell? ⟨b, off + j, none⟩ = some (.int .i64 x) ∧ b < W.heap.size

theorem addr_plain (b off i : Nat) : (⟨b, off, none⟩ : Addr).add i = ⟨b, off + i, none⟩ := by
  by_cases h : i = 0
  · subst h; simp [Addr.add]
  · simp [Addr.add, h]

theorem cell_in {w : World} {a : Addr} {v : Value} (h : w.cell? a = some v) : a.block < w.heap.size := by
  unfold World.cell? at h
  split at h
  · rename_i hh
    exact (Array.getElem?_eq_some_iff.1 hh).1
  · cases h

theorem open_nums {H : Type} {enc : TypeId × Value → H} {W : World} {fuel : Nat} {v : Value} {x : DataW H × List MemPlace} (h : DataW.trod enc Try.prog W 0 (fun _ => true) true fuel 31 [v] = some x) :
    ∃ (ko : Option Addr) (ks : List Int) (kc : Nat), v = .slice ko ks.length kc ∧ NumsDat ks x.1 ∧ NumsAt W ko ks := by
  rcases open_slice1 Try.underlying31 cellsInt' h with ⟨hcs, rfl⟩ | ⟨a, len, cap, m, n, V, D, Pl, hcs, hb, hl, hm, hmm, rfl, hall⟩
  · simp only [List.cons.injEq, and_true] at hcs
    exact ⟨none, [], 0, hcs, Or.inl ⟨rfl, rfl⟩, fun _ => rfl, fun j x hx => by simp at hx⟩
  · simp only [List.cons.injEq, and_true] at hcs
    have hlm : len ≤ m := by rw [hmm]; simp; omega
    have each : ∀ i, i < len → ∃ z : Int, D i = .lit (.int .i64 z) ∧ W.cell? (a.add i) = some (.int .i64 z) := by
      intro i hi
      obtain ⟨h1, h2⟩ := hall i (by omega)
      obtain ⟨z, e, hx, _⟩ := DataW.trod_int Try.underlying3 h2
      simp only [List.cons.injEq, and_true] at e
      simp only [Prod.mk.injEq] at hx
      exact ⟨z, hx.1, by rw [h1, e]⟩
    obtain ⟨q, hq⟩ := choose_lt each
    have hnd : NumsDat ((List.range len).map q) (DataW.slice (H := H) ((List.range len).map D) ((List.range (m - len)).map fun j => D (len + j))) := by
      refine Or.inr ⟨(List.range (m - len)).map fun j => D (len + j), ?_⟩
      rw [List.map_map]
      exact congrArg (fun l => DataW.slice l _) (List.map_congr_left fun i hi => (hq i (List.mem_range.1 hi)).1)
    refine ⟨some a, (List.range len).map q, cap, by simpa using hcs, hnd, fun h => (by cases h), ?_⟩
    intro j x hx
    have hj : j < len := by have := (List.getElem?_eq_some_iff.1 hx).1; simpa using this
    have hr : x = q j := by
      rw [List.getElem?_map, List.getElem?_range hj] at hx
      simpa using hx.symm
    subst hr
    obtain ⟨_, hc⟩ := hq j hj
    obtain ⟨b, off, spot⟩ := a
    have hspot : spot = none := by simpa [Addr.add] using World.cell?_spot (hq 0 (by omega)).2
    subst hspot
    rw [addr_plain] at hc
    exact ⟨b, off, rfl, hc, cell_in hc⟩

/-- An operation as a datum. -/
def OpDat {H : Type} (o : Opn) (d : DataW H) : Prop :=
  ∃ kd, d = .agg [.lit (.int .i64 o.kind), .lit (.int .i64 o.dk), .lit (.string o.nm.data.toList), .lit (.string o.s.data.toList), .lit (.int .i64 o.a), .lit (.int .i64 o.b), kd] ∧ NumsDat o.ks kd

/-- An operation's cells. -/
def OpAt (W : World) (a : Addr) (o : Opn) : Prop :=
  W.cell? a = some (.int .i64 o.kind) ∧ W.cell? (a.add 1) = some (.int .i64 o.dk) ∧ W.cell? (a.add 2) = some (.string o.nm) ∧ W.cell? (a.add 3) = some (.string o.s) ∧ W.cell? (a.add 4) = some (.int .i64 o.a) ∧ W.cell? (a.add 5) = some (.int .i64 o.b) ∧ W.cell? (a.add 6) = some (.slice o.ko o.ks.length o.kc)

set_option maxRecDepth 100000 in
theorem open_op {H : Type} {enc : TypeId × Value → H} {W : World} {fuel : Nat} {a : Addr} {cs : List Value} {x : DataW H × List MemPlace} (h1 : W.cells? 0 a 7 = some cs) (h : DataW.trod enc Try.prog W 0 (fun _ => true) true fuel 65 cs = some x) :
    ∃ o : Opn, OpDat o x.1 ∧ OpAt W a o ∧ NumsAt W o.ko o.ks ∧ (Lit.int .i64 o.dk).wf = true ∧ (Lit.int .i64 o.a).wf = true := by
  obtain ⟨_, hlen, hcell⟩ := World.cells?_some h1
  obtain ⟨xs, k, hk, hxy, _, hxl, hf⟩ := DataW.trod_struct Try.underlying65 h
  match xs, hxl, cs, hlen with
  | [y0, y1, y2, y3, y4, y5, y6], _, [v0, v1, v2, v3, v4, v5, v6], _ =>
    have g0 := hf 0 _ rfl
    have g1 := hf 1 _ rfl
    have g2 := hf 2 _ rfl
    have g3 := hf 3 _ rfl
    have g4 := hf 4 _ rfl
    have g5 := hf 5 _ rfl
    have g6 := hf 6 _ rfl
    simp [cellsStr', cellsInt', cellsInts'] at g0 g1 g2 g3 g4 g5 g6
    obtain ⟨z0, e0, x0, w0⟩ := DataW.trod_int Try.underlying3 g0
    obtain ⟨z1, e1, x1, w1⟩ := DataW.trod_int Try.underlying3 g1
    obtain ⟨s2, e2, x2, _⟩ := DataW.trod_string Try.underlying9 g2
    obtain ⟨s3, e3, x3, _⟩ := DataW.trod_string Try.underlying9 g3
    obtain ⟨z4, e4, x4, w4⟩ := DataW.trod_int Try.underlying3 g4
    obtain ⟨z5, e5, x5, w5⟩ := DataW.trod_int Try.underlying3 g5
    obtain ⟨ko, ks, kc, e6, nd, na⟩ := open_nums g6
    simp only [List.cons.injEq, and_true] at e0 e1 e2 e3 e4 e5
    subst e0 e1 e2 e3 e4 e5 e6 x0 x1 x2 x3 x4 x5
    have c0 := hcell 0 (by omega)
    have c1 := hcell 1 (by omega)
    have c2 := hcell 2 (by omega)
    have c3 := hcell 3 (by omega)
    have c4 := hcell 4 (by omega)
    have c5 := hcell 5 (by omega)
    have c6 := hcell 6 (by omega)
    subst hxy
    refine ⟨⟨z0, z1, s2, s3, z4, z5, ks, ko, kc⟩, ⟨y6.1, by simp, nd⟩, ⟨by simpa [Addr.add] using c0, by simpa using c1, by simpa using c2, by simpa using c3, by simpa using c4, by simpa using c5, by simpa using c6⟩, na, w1, w4⟩

/-- What a script holds. -/
def OpsAt (W : World) (so : Option Addr) (ops : List Opn) : Prop :=
  ∀ i o, ops[i]? = some o → ∃ b off, so = some ⟨b, off, none⟩ ∧ b < W.heap.size ∧ OpAt W ⟨b, off + i * 7, none⟩ o ∧ NumsAt W o.ko o.ks ∧ (Lit.int .i64 o.dk).wf = true ∧ (Lit.int .i64 o.a).wf = true

theorem open_ops {H : Type} {enc : TypeId × Value → H} {W : World} {ao : Option Addr} {len cap : Nat} {d : DataW H} {ps : List MemPlace} (h : DataW.Trod enc Try.prog W 0 (fun _ => true) true 37 (.slice ao len cap) d ps) :
    ∃ ops : List Opn, len = ops.length ∧ ((ops = [] ∧ d = .nil) ∨ ∃ (es sp : List (DataW H)), d = .slice es sp ∧ es.length = ops.length ∧ ∀ (i : Nat) (o : Opn), ops[i]? = some o → ∃ e : DataW H, es[i]? = some e ∧ OpDat o e) ∧ OpsAt W ao ops := by
  obtain ⟨fuel, hf⟩ := h
  rcases open_slice Try.underlying37 hf with ⟨hcs, hx⟩ | ⟨a, len', cap', m, n, D, Pl, hcs, hb, hl, hm, hmm, hx, hall⟩
  · simp [Value.cells] at hcs
    obtain ⟨rfl, rfl, rfl⟩ := hcs
    simp only [Prod.mk.injEq] at hx
    exact ⟨[], rfl, Or.inl ⟨rfl, hx.1⟩, fun i o ho => by simp at ho⟩
  · simp [Value.cells] at hcs
    obtain ⟨rfl, rfl, rfl⟩ := hcs
    simp only [Prod.mk.injEq] at hx
    have hlm : len ≤ m := by rw [hmm]; simp; omega
    have each : ∀ i, i < len → ∃ o : Opn, OpDat o (D i) ∧ OpAt W (a.add (i * 7)) o ∧ NumsAt W o.ko o.ks ∧ (Lit.int .i64 o.dk).wf = true ∧ (Lit.int .i64 o.a).wf = true := by
      intro i hi
      obtain ⟨cs', h1, h2⟩ := hall i (by omega)
      rw [cellsDOp] at h1
      exact open_op h1 h2
    haveI : Inhabited Opn := ⟨⟨0, 0, ⟨#[]⟩, ⟨#[]⟩, 0, 0, [], none, 0⟩⟩
    obtain ⟨q, hq⟩ := choose_lt each
    have hget : ∀ i o, ((List.range len).map q)[i]? = some o → i < len ∧ o = q i := fun i o hi => by
      have hil : i < len := by have := (List.getElem?_eq_some_iff.1 hi).1; simpa using this
      rw [List.getElem?_map, List.getElem?_range hil] at hi
      exact ⟨hil, by simpa using hi.symm⟩
    refine ⟨(List.range len).map q, by simp, Or.inr ⟨_, _, hx.1, by simp, ?_⟩, ?_⟩
    · intro i o hi
      obtain ⟨hil, rfl⟩ := hget i o hi
      exact ⟨D i, by rw [List.getElem?_map, List.getElem?_range hil]; rfl, (hq i hil).1⟩
    · intro i o hi
      obtain ⟨hil, rfl⟩ := hget i o hi
      obtain ⟨_, k0, k1⟩ := hq i hil
      obtain ⟨b, off, spot⟩ := a
      have hspot : spot = none := by simpa [Addr.add] using World.cell?_spot (hq 0 (by omega)).2.1.1
      subst hspot
      rw [addr_plain] at k0
      exact ⟨b, off, rfl, cell_in k0.1, k0, k1⟩

theorem weightsAll_in {H : Type} {P : Program} {e : TypeId} : ∀ {l : List (DataW H)} {d : DataW H} {n : Nat}, d ∈ l → n ∈ DataW.weights P e d → n ∈ DataW.weightsAll P e l
  | [], _, _, h, _ => by simp at h
  | x :: l, d, n, h, hn => by
    simp only [DataW.weightsAll, List.mem_append]
    rcases List.mem_cons.1 h with rfl | h
    · exact Or.inl hn
    · exact Or.inr (weightsAll_in h hn)

theorem op_weights {H : Type} (o : Opn) (d : DataW H) (h : OpDat o d) : o.s.size ∈ DataW.weights Try.prog 65 d ∧ (o.ks = [] ∨ ∃ n, o.ks.length * 8 ≤ n ∧ n ∈ DataW.weights Try.prog 65 d) := by
  obtain ⟨kd, rfl, hk⟩ := h
  refine ⟨by simp [DataW.weights, DataW.weightsEach, Try.underlying65], ?_⟩
  rcases hk with ⟨hk, rfl⟩ | ⟨sp, rfl⟩
  · exact Or.inl hk
  · right
    refine ⟨(o.ks.length + sp.length) * 8, by omega, ?_⟩
    simp [DataW.weights, DataW.weightsEach, Try.underlying65, Try.underlying31, bytesInt']
end Go.Proofs.Ytekdenkllipehaa

namespace Go.Proofs.Ytekdenkllipehaa
namespace disks
open Go.ChangeShapes Go.WideShapes Go.ChangeAt Go.RowKit

theorem disks_walk (ops : List Opn) (so : Option Addr) (sc : Nat) (w : World) (hS : ScrAt w so ops) (hl : ops.length * 88 ≤ 140737488351232) :
    Calls Try.prog 6 #[.slice so ops.length sc] w fun e w' => e = .returned (.bool true) ∧ Below w.heap.size w w' := by
  have HU : Hid _ := fun (_ : Unit) => upTo_walk ops so sc w hS hl
  clear hS hl
  go_enter Try.func6, Try.ntmps6
  go_wp2_with fail
  refine (HU.out ()).mono ?_
  rintro e w1 ⟨rfl, hB⟩
  have HB : Hid _ := hB
  clear HU hB
  go_wp2_with fail
  go_ret
  exact ⟨rfl, HB.out⟩

theorem own : ownKnob Try.prog.godebug = none := by kernel_rfl
theorem laidOut : laidOutB Try.prog = true := by kernel_rfl

theorem i64_wf {z : Int} (h : (Lit.int .i64 z).wf = true) : -9223372036854775808 ≤ z ∧ z ≤ 9223372036854775807 := by
  have e1 : IntKind.i64.min = -9223372036854775808 := by decide
  have e2 : IntKind.i64.max = 9223372036854775807 := by decide
  simp only [Lit.wf, e1, e2, Bool.and_eq_true, decide_eq_true_eq] at h
  omega

set_option maxRecDepth 100000 in
theorem lifted (os : Os) (started : os.Started) (H : Type) (enc : TypeId × Value → H) :
    ReturnsInHanded {} Try.checked os 6 .any (Rows.disksSpec.pre6 enc Try.prog Try.f6 Rows.disksRow.domain false) (Rows.disksSpec.post enc Try.prog Try.f6 false true false false) := by
  refine returnsInHanded_of_change_sized (C := Try.checked) own started (by kernel_rfl) Try.func6
    (ChangeSpec.witness6 (enc := enc) (C := Try.checked) false ⟨#[], #[.slice none 0 0], []⟩ 8 (by kernel_rfl) (by kernel_rfl) (by kernel_rfl) (by kernel_rfl)) ?_
  intro W base args ds gs before hval0 hW hcnd hsz0 _
  have hsz : (DataW.weightsEach Try.prog (Try.f6.params.toList ++ Rows.disksSpec.plain.varTypes Try.prog) (ds ++ gs)).all (· ≤ reachBytes) = true := hsz0
  have hval : ∀ (j : Nat) t v, Try.f6.params[j]? = some t → args[j]? = some v → Value.okWide Try.prog W .any base t v := hval0
  have hW' := hW
  obtain ⟨p, q, hA0, hV, rfl, hfz, hnd⟩ := hW
  have hA : DataW.TrodAll enc Try.prog W 0 (fun _ => true) true Try.f6.params.toList args.toList ds p := hA0
  rw [Try.params6] at hA hval hsz
  obtain ⟨v0, vs0, d0, ds0, p0, q0, hargs, rfl, rfl, h0, r0⟩ := trodAll_cons hA
  obtain ⟨rfl, rfl, rfl⟩ := trodAll_nil r0
  obtain rfl : args = #[v0] := by cases args; simp_all
  obtain ⟨rfl, rfl⟩ := trodVars_none hV
  obtain ⟨ao, len, cap, rfl⟩ := okWide_slice Try.underlying37 (hval 0 37 v0 rfl rfl)
  have h0k := h0
  obtain ⟨ops, rfl, hd, hO⟩ := open_ops h0
  have hlt : ∀ x ∈ p0, x.block < W.heap.size := fun x hx => by
    have := hW'.lt x (by simp [hx])
    simpa using this
  have hsize : ops.length * 88 ≤ 140737488351232 ∧ ∀ (i : Nat) (o : Opn), ops[i]? = some o → o.s.size ≤ 140737488351232 ∧ o.ks.length * 8 ≤ 140737488351232 := by
    rcases hd with ⟨rfl, rfl⟩ | ⟨es, sp, rfl, hel, hes⟩
    · exact ⟨by simp, fun i o ho => by simp at ho⟩
    · have hr0 := sized_slice hsz (j := 0) (t := 37) (e := 65) rfl rfl Try.underlying37
      rw [bytesDOp] at hr0
      simp only [hel, reachBytes] at hr0
      refine ⟨by omega, fun i o ho => ?_⟩
      obtain ⟨e, he, hdat⟩ := hes i o ho
      obtain ⟨hk, hb⟩ := op_weights o e hdat
      have hin : ∀ n, n ∈ DataW.weights Try.prog 65 e → n ≤ 140737488351232 := fun n hn => by
        have hm : n ∈ DataW.weights Try.prog 37 (.slice es sp : DataW H) := by
          simp only [DataW.weights, Try.underlying37, List.mem_cons, List.mem_append]
          exact Or.inr (Or.inl (weightsAll_in (List.mem_of_getElem? he) hn))
        have := List.all_eq_true.1 hsz _ (DataW.weights_mem_each (j := 0) (t := 37) rfl rfl n hm)
        have h3 : n ≤ reachBytes := of_decide_eq_true this
        simpa [reachBytes] using h3
      refine ⟨hin _ hk, ?_⟩
      rcases hb with hb | ⟨n, hn, hb⟩
      · rw [hb]; simp
      · exact Nat.le_trans hn (hin n hb)
  have hS : ScrAt W ao ops := fun i o ho => by
    obtain ⟨b, off, hso, hbl, ⟨c0, c1, c2, c3, c4, c5, c6⟩, hn, wd, wa⟩ := hO i o ho
    obtain ⟨z1, z2⟩ := hsize.2 i o ho
    simp only [addr_plain] at c1 c2 c3 c4 c5 c6
    exact ⟨⟨i64_wf wd, z1, (i64_wf wa).2, z2, hn.1, hn.2⟩, b, off, hso, hbl, c0, c1, c2, c3, c4, c5, c6⟩
  clear hA0 hval0
  simp only [List.append_nil] at hW'
  refine (disks_walk ops ao cap W hS hsize.1).mono fun e W' ⟨he, hb⟩ => ?_
  subst he
  exact ⟨_, rfl, _, _, _, [], _, [], hW', trodAll_cons_mk (shut_bool Try.underlying4 _) trodAll_mk0, trodAll_cons_mk (Below.trod laidOut (by kernel_rfl) (of_decide_eq_true (by kernel_rfl)) h0k hb hlt) trodAll_mk0, rfl, hb.frame _, fun h => by cases h⟩

theorem over : Rows.disksRow.holds Try.pinned (OpenSpec.ofChange Rows.disksSpec) :=
  OpenClaim.holds_of_wide 6 Try.f6 rfl rfl rfl rfl rfl rfl rfl ⟨rfl, rfl, rfl, rfl, rfl⟩ rfl rfl rfl rfl rfl (by kernel_rfl) Try.func6 (by kernel_rfl)
    (of_decide_eq_true (by kernel_rfl)) (by unfold Func.isWrapper; first | (rw [if_pos (by decide +kernel)]; kernel_rfl) | (rw [if_neg (by decide +kernel)]; exact ⟨rfl, rfl⟩))
    (fun os started H enc _ => lifted os started H enc)
end disks

/-- The statement. -/
theorem disks_holds : Rows.DisksSaid :=
  disks.over
#print axioms disks_holds
end Go.Proofs.Ytekdenkllipehaa
