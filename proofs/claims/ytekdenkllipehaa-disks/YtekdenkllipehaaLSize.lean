/-
  The landed disk: Size.
-/
import Derived.Test.YtekdenkllipehaaLAll
import Derived.Test.YtekdenkllipehaaRowCells
import Derived.Test.YtekdenkllipehaaDskGood
namespace Go.Proofs.Ytekdenkllipehaa
open Go.RowKit Go.Shelf

attribute [local go_sem] Oper.semAt_some

/-- How many bytes the files of these numbers have. -/
def sumOf (fs : List M.Fil) (l : List (Fin fs.length)) : Nat := (l.map fun x => fs[x.1].bytes.length).sum
theorem sumOf_snoc (fs : List M.Fil) (l : List (Fin fs.length)) (x : Fin fs.length) : sumOf fs (l ++ [x]) = sumOf fs l + fs[x.1].bytes.length := by simp [sumOf]
theorem sumOf_all (fs : List M.Fil) : sumOf fs (List.finRange fs.length) = M.total fs := by
  unfold sumOf M.total
  congr 1
  apply List.ext_getElem (by simp)
  intro i h1 h2
  simp
theorem sumOf_le (fs : List M.Fil) (B : Nat) (hB : ∀ f ∈ fs, f.bytes.length ≤ B) : ∀ l : List (Fin fs.length), sumOf fs l ≤ l.length * B
  | [] => by simp [sumOf]
  | x :: l => by
    have h1 := sumOf_le fs B hB l
    have h2 := hB _ (List.getElem_mem x.2)
    have h3 : sumOf fs (x :: l) = fs[x.1].bytes.length + sumOf fs l := by simp [sumOf]
    rw [h3, List.length_cons, Nat.add_mul]
    omega

theorem boxed_set {W : World} {B : Nat} {v : Value} {t : TypeId} (v' : Value) (h : W.heap[B]? = some (.cells #[v] t (0, 0))) : (W.setCell ⟨B, 0, none⟩ v').heap[B]? = some (.cells #[v'] t (0, 0)) := by
  have := heap_setCell_same W B 0 #[v] t v' h
  simpa using this

set_option maxRecDepth 100000 in
set_option maxHeartbeats 2000000 in
theorem diskSize (tg : Tags) (o d : Nat) (D : M.Dsk) (ids ps : List Nat) (hD : D.Fine) (w : World) (h : LDiskAt w tg o d D ids ps) :
    Calls Try.prog 68 #[.pointer (some ⟨d, 0, none⟩)] w fun e w' => e = .returned (.int .i64 (M.total D.files : Nat)) ∧ Q w w' := by
  have hl := hD.good.few
  refine (callsIn_wide (n := 6)).1 ?_
  refine callsIn_of_wp_marks Try.func68 rfl trivial ?_ rfl
  simp only [Try.ntmps68, List.size_toArray, List.length_cons, List.length_nil, Nat.reduceAdd, Nat.reduceSub, Array.replicate_succ, Array.replicate_zero, List.push_toArray, List.append_toArray, List.nil_append, List.cons_append]
  gi_wp2_with (refine ⟨trivial, ?_⟩; refine (all_in _ _ _).mono ?_; rintro e w' ⟨rfl, rfl⟩)
  have hQ : Q w ((w.alloc (.cells #[.int .i64 0] 3)).alloc (.cells #[.pointer (some ⟨d, 1, none⟩)] 154)) := ((Q.refl w).alloc _ _).alloc _ _
  refine wpIn_rangeFunc_ownG rfl (by decide) (gf := 111) (lb := #[.pointer (some ⟨w.heap.size + 1, 0, none⟩)]) (by simp [Act.eval]) trivial (enters_of Try.func111 (by kernel_rfl) rfl)
    (all_stops tg o d D.files ps hl 5 (by decide) (w.heap.size + 1) w _ h.map hQ (by simp) (by simp)) (fun h k => KeepSet.trans h k) (KeepSet.put (fun k hk => hk.elim (fun e => by subst e; simp) (fun e => by have := e.1; simp; omega))) (Below.refl _ _) (fun _ => rfl)
    (fun pre W => W.heap[w.heap.size]? = some (.cells #[.int .i64 (sumOf D.files pre : Nat)] 3 (0, 0)) ∧ Below w.heap.size w W)
    (fun _ _ _ => False) ?hI (fun _ _ _ _ _ hs _ _ => hs) ?h0
    (fun x => { tmps := #[.pointer (some ⟨d, 0, none⟩), undef, .int .i64 0, .pointer (some ⟨w.heap.size, 0, none⟩), undef, .pointer (some ⟨ps[x.1]?.getD 0, 0, none⟩), .pointer (some ⟨d, 0, none⟩), .pointer (some ⟨d, 0, none⟩), .pointer (some ⟨d, 1, none⟩), .func (.func 111) #[] #[.pointer (some ⟨w.heap.size + 1, 0, none⟩)], .string D.files[x.1].name, .pointer (some ⟨ps[x.1]?.getD 0, 0, none⟩), undef, undef, undef, undef, undef, undef, undef, undef], defers := [] }) ?assign ?body ?done ?stop
  case hI =>
    intro pre A B row hs hg hr
    refine ⟨(hg.block _ (Array.getElem?_eq_some_iff.1 hs.1).1 (fun e => ?_)).trans hs.1, ?_⟩
    · have := (hr _ e.symm).1; simp at this; omega
    · exact hs.2.grown hg hs.2.size (fun k e => by have := (hr k e).1; simp at this; omega)
  case h0 => exact ⟨((Below.refl _ _).alloc (Nat.le_refl _) _ : Below (w.alloc (.cells #[.int .i64 0] 3)).heap.size (w.alloc (.cells #[.int .i64 0] 3)) _).block w.heap.size (by simp) |>.trans (heap_alloc_new w _), hQ.below⟩
  case assign =>
    intro l x W K hK
    simp only [mapEntry]
    gi_wp2
    exact hK
  case body =>
    rintro l pre x W ⟨hc, hW⟩ hlen
    have hx : x.1 < ps.length := by have := h.map.len; simp at this; have := x.2; omega
    have hxi : x.1 < ids.length := by rw [h.lenI]; exact x.2
    obtain ⟨bo, bc, hF⟩ := h.file x.1 _ _ _ (List.getElem?_eq_getElem hx) (List.getElem?_eq_getElem hxi) (List.getElem?_eq_getElem x.2)
    have k0 := (hW.cell (p := ⟨ps[x.1], 0, none⟩) hF.top).trans hF.c0
    have hpe : ps[x.1]?.getD 0 = ps[x.1] := by simp [List.getElem?_eq_getElem hx]
    rw [hpe]
    have k1 : W.cell? ⟨w.heap.size, 0, none⟩ = some (.int .i64 (sumOf D.files pre : Nat)) := by simp [World.cell?, hc]
    have k2 : W.frozen? ⟨w.heap.size, 0, none⟩ = false := frozen_of_row W _ 0 _ _ hc
    have hb1 := sumOf_le D.files 1048576 (fun f hf => hD.good.small hf) pre
    have hb2 := hD.good.small (List.getElem_mem x.2)
    have hb3 : pre.length * 1048576 ≤ 67108864 := by omega
    have hsum := sumOf_snoc D.files pre x
    obtain ⟨s0, hs0⟩ : ∃ s0, sumOf D.files pre = s0 := ⟨_, rfl⟩
    obtain ⟨s1, hs1⟩ : ∃ s1, D.files[x.1].bytes.length = s1 := ⟨_, rfl⟩
    rw [hs0] at hb1 k1
    rw [hs1] at hb2 k0
    rw [hs0, hs1] at hsum
    have hwr : IntKind.i64.wrap ((s0 : Int) + (s1 : Int)) = (s0 : Int) + (s1 : Int) := by rw [IntKind.wrap_i64]; omega
    have HR : Hid (KeepsFrom (w.heap.size + 1 + 1) W ((W.setCell ⟨w.heap.size, 0, none⟩ (.int .i64 ((s0 : Int) + (s1 : Int)))).drew) ∧ KeepSet (mapSet tg o (w.heap.size + 1) w.heap.size) W ((W.setCell ⟨w.heap.size, 0, none⟩ (.int .i64 ((s0 : Int) + (s1 : Int)))).drew) ∧
        (((W.setCell ⟨w.heap.size, 0, none⟩ (.int .i64 ((s0 : Int) + (s1 : Int)))).drew).heap[w.heap.size]? = some (.cells #[.int .i64 (sumOf D.files (pre ++ [x]) : Nat)] 3 (0, 0)) ∧ Below w.heap.size w ((W.setCell ⟨w.heap.size, 0, none⟩ (.int .i64 ((s0 : Int) + (s1 : Int)))).drew))) := by
      refine ⟨KeepsFrom.of_grownBy ((grown_setCells W w.heap.size 0 [.int .i64 ((s0 : Int) + (s1 : Int))]).trans (drew_grown _ _)) (fun j e => by cases e; omega),
        ⟨by simp, fun k hk => heap_setCell_other W ⟨w.heap.size, 0, none⟩ k _ (hk.elim (fun e => by subst e; simp) (fun e => by have := e.1; simp; omega))⟩, ?_, (hW.setCell (p := ⟨w.heap.size, 0, none⟩) (Nat.le_refl _) _).drew⟩
      rw [hsum]
      exact boxed_set _ hc
    have hmx : Try.prog.follows .mixedOrders = true := by kernel_rfl
    clear hQ h hF hc
    gi_wp2
    gi_region_o
    all_goals gi_wp2
    all_goals exact ⟨by simpa using HR.out.1, HR.out.2.1, HR.out.2.2⟩
  case done =>
    rintro E ys W hE rfl ⟨hc, hW⟩ hK
    rw [sumOf_all] at hc
    have k1 : W.cell? ⟨w.heap.size, 0, none⟩ = some (.int .i64 (M.total D.files : Nat)) := by simp [World.cell?, hc]
    have HB : Hid (Below w.heap.size w W) := hW
    clear hc hW hQ h
    gi_wp2
    refine ⟨by simp, .inl ⟨_, _, rfl, run_takeDeferred hK, ?_⟩⟩
    exact ⟨_, results_tmp rfl _ _ _, rfl, ⟨HB.out.trans (belowK_b (w := w) (Nat.le_refl _) W E _ _ (by simp at hE; omega) hK rfl rfl)⟩⟩
  case stop =>
    rintro D c pre W _ _ h _
    exact h.elim
end Go.Proofs.Ytekdenkllipehaa
