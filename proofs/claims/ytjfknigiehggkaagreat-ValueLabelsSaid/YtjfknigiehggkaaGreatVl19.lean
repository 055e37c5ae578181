/- What List returns: the list of these elements, in memory of the call's own. A range over slices.Backward. -/
import Derived.Test.YtjfknigiehggkaaGreatVl15
import Derived.RangeFuncNested
import Derived.RangeFuncBound
import Derived.RangeFuncCalls
import Derived.RangeFuncLeaves
import Derived.RangeFuncBox
import Derived.Shelf.Abstract
import Derived.Shelf.RegionOpen
import Derived.OwnWalkIn
import Derived.TacticsInMore
import Derived.RegionIn
import Derived.LoopNIn
import Derived.LoopIn
namespace Go.Proofs.YtjfknigiehggkaaGreat
open Go Go.RowKit Go.Shelf
attribute [local go_sem] Oper.semAt_some
/-- the indices that have come when m elements are still to come -/
def back (n m : Nat) : List (Fin n) := ((List.finRange n).drop m).reverse
theorem back_full (n : Nat) : back n n = [] := by simp [back]
theorem back_step {n m : Nat} (h : m < n) : back n m = back n (m + 1) ++ [⟨m, h⟩] := by
  unfold back
  rw [List.drop_eq_getElem_cons (by simpa using h)]
  simp
theorem back_len (n m : Nat) : (back n m).length = n - m := by simp [back]
/-- Kp: what a round keeps: all below n₀, and block Bs -/
def KpB (n₀ Bs : Nat) (W W' : World) : Prop := Below n₀ W W' ∧ W'.heap[Bs]? = W.heap[Bs]?
set_option maxRecDepth 100000 in
set_option maxHeartbeats 2000000 in
theorem backward1_in (n : Nat) (hn : 1 ≤ n) (q Bs n₀ b off N cap : Nat) (Ad : Option Addr) (hAd : 0 < N → Ad = some ⟨b, off, none⟩) (ca : Fin N → List Value) (hN : N ≤ maxLen) (hb : 0 < N → b < n₀) (J Jx : List (Fin N) → World → Prop)
    (hf : ∀ i, ∃ x0 x1 x2 x3 x4 x5 x6, ca i = [x0, x1, x2, x3, x4, x5, x6])
    (hY : ∀ pre x W, J pre W → pre.length < N → YieldAt Fence.wide (n - 1) Tryz.prog q #[.int .i64 (x.1 : Int), .agg (ca x).toArray] W fun e W' =>
      (e = .returned (.bool true) ∧ J (pre ++ [x]) W' ∧ KpB n₀ Bs W W') ∨ (e = .returned (.bool false) ∧ Jx (pre ++ [x]) W'))
    (W : World) (hBs : W.cell? ⟨Bs, 0, none⟩ = some (.slice Ad N cap)) (hc : ∀ (i : Fin N) (j : Nat) (v : Value), (ca i)[j]? = some v → W.cell? ⟨b, off + i.1 * 7 + j, none⟩ = some v) (h0 : J [] W) :
    CallsIn Fence.wide n Tryz.prog 87 #[.func (.yield q) #[] #[], .pointer (some ⟨Bs, 0, none⟩)] W fun e W' => (∃ v, e = .returned v) ∧
      ((∃ ys, ys = back N 0 ∧ J ys W') ∨ (∃ pre, True ∧ Jx pre W')) := by
  have hro : Fence.wide.round = none := rfl
  unfold maxLen at hN
  refine callsIn_of_wp Tryz.func87 rfl trivial ?_ hro
  simp only [Tryz.ntmps87, List.size_toArray, List.length_cons, List.length_nil, Nat.reduceAdd, Nat.reduceSub, Array.replicate_succ, Array.replicate_zero, List.push_toArray, List.append_toArray, List.nil_append, List.cons_append]
  have hw0 : IntKind.i64.wrap ((N : Int) - 1) = (N : Int) - 1 := IntWalk.i64_in _ (by omega)
  gi_wp2
  gi_loopw [3] (fun p wr => ∃ m : Nat, m ≤ N ∧ p = .int .i64 ((m : Int) - 1) ∧ Hid (J (back N m) wr) ∧ Hid (KpB n₀ Bs W wr))
    (fun p _ => (intOf p + 1).toNat)
  case atStart => exact ⟨N, Nat.le_refl _, rfl, Lib.hid (by rw [back_full]; exact h0), Lib.hid ⟨Below.refl _ _, rfl⟩⟩
  case round =>
    obtain ⟨m, hm, rfl, hJs, hnx⟩ := hrel
    have hBr : wr.cell? ⟨Bs, 0, none⟩ = some (.slice Ad N cap) := (World.cell?_of_block hnx.out.2).trans hBs
    rcases Nat.eq_zero_or_pos m with h00 | hpos
    · subst h00
      have hneg : ¬ (0 : Int) ≤ ((0 : Nat) : Int) - 1 := by omega
      gi_wp2
      go_end0
      exact ⟨⟨_, rfl⟩, .inl hJs.out⟩
    · obtain ⟨j, rfl⟩ : ∃ j, m = j + 1 := ⟨m - 1, by omega⟩
      have hjN : j < N := by omega
      rw [hAd (by omega)] at hBr
      have e1 : (((j + 1 : Nat) : Int) - 1) = (j : Int) := by omega
      rw [e1]
      obtain ⟨x0, x1, x2, x3, x4, x5, x6, hca⟩ := hf ⟨j, hjN⟩
      have hcj := hc ⟨j, hjN⟩
      rw [hca] at hcj
      have l0 := (hnx.out.1.cell (p := ⟨b, off + j * 7 + 0, none⟩) (hb (by omega))).trans (hcj 0 _ rfl)
      have l1 := (hnx.out.1.cell (p := ⟨b, off + j * 7 + 1, none⟩) (hb (by omega))).trans (hcj 1 _ rfl)
      have l2 := (hnx.out.1.cell (p := ⟨b, off + j * 7 + 2, none⟩) (hb (by omega))).trans (hcj 2 _ rfl)
      have l3 := (hnx.out.1.cell (p := ⟨b, off + j * 7 + 3, none⟩) (hb (by omega))).trans (hcj 3 _ rfl)
      have l4 := (hnx.out.1.cell (p := ⟨b, off + j * 7 + 4, none⟩) (hb (by omega))).trans (hcj 4 _ rfl)
      have l5 := (hnx.out.1.cell (p := ⟨b, off + j * 7 + 5, none⟩) (hb (by omega))).trans (hcj 5 _ rfl)
      have l6 := (hnx.out.1.cell (p := ⟨b, off + j * 7 + 6, none⟩) (hb (by omega))).trans (hcj 6 _ rfl)
      rw [Nat.add_zero] at l0
      obtain ⟨fn, tmps, assign, body, hy, hR⟩ := hY _ ⟨j, hjN⟩ wr hJs.out (by rw [back_len]; omega)
      rw [hca] at hy
      dsimp only at hy
      have kn : (j : Int) < (N : Int) := by omega
      have k0 : (0 : Int) ≤ (j : Int) := by omega
      have hw1 : IntKind.i64.wrap ((j : Int) - 1) = (j : Int) - 1 := IntWalk.i64_in _ (by omega)
      clear hc hcj hca hY hf hAd hb
      gi_wp2
      refine hR.mono ?_
      rintro e W3 (⟨rfl, hJ3, hk3⟩ | ⟨rfl, hJx3⟩)
      · gi_wp2
        go_roundw
        case rel => exact ⟨j, by omega, by go_num, Lib.hid (by rw [back_step hjN]; exact hJ3), Lib.hid ⟨hnx.out.1.trans hk3.1, hk3.2.trans hnx.out.2⟩⟩
        case measure => simp [intOf]
      · gi_wp2
        refine bodyPost_ret (results_none rfl _ _ _) rfl ?_
        exact ⟨⟨_, rfl⟩, .inr ⟨_, trivial, hJx3⟩⟩
set_option maxHeartbeats 1000000 in
theorem backward_any (a : Option Addr) (len cap : Nat) (w : World) :
    Calls Tryz.prog 46 #[.slice a len cap] w fun e w' => e = .returned (.func (.func 87) #[] #[.pointer (some ⟨w.heap.size, 0, none⟩)]) ∧ w' = w.alloc (.cells #[.slice a len cap] 22) := by
  have hmf : ∀ (fn : Fn) (first cap : Array Value) (w : World), (Instr.makeFunc fn first cap).run Tryz.prog w = .ok (.func fn first cap) w := fun _ _ _ _ => rfl
  go_enter Tryz.func46, Tryz.ntmps46
  go_wp2
  go_ret
  exact ⟨rfl, rfl⟩
set_option maxHeartbeats 400000 in
theorem nil_exact (w : World) : Calls Tryz.prog 41 #[] w fun e w' => e = .returned (.agg #[.int .i64 5, .int .i64 0, .string ⟨#[]⟩, .slice none 0 0, .slice none 0 0, .slice none 0 0, .slice none 0 0]) ∧ w' = w.alloc (.cells #[.int .i64 5, .int .i64 0, .string ⟨#[]⟩, .slice none 0 0, .slice none 0 0, .slice none 0 0, .slice none 0 0] 27) := by
  go_enter Tryz.func41, Tryz.ntmps41
  go_wp2
  refine bodyPost_ret (v := .agg #[.int .i64 5, .int .i64 0, .string ⟨#[]⟩, .slice none 0 0, .slice none 0 0, .slice none 0 0, .slice none 0 0]) (by simp [results, Tryz.results41, go_sem]) rfl ?_
  exact ⟨rfl, rfl⟩
def listV (l : List Vl) : Vl := l.foldr consV nilV
def accV (l : List Vl) (pre : List (Fin l.length)) : Vl := pre.foldl (fun t i => consV l[i] t) nilV
theorem accV_snoc (l : List Vl) (pre : List (Fin l.length)) (i : Fin l.length) : accV l (pre ++ [i]) = consV l[i] (accV l pre) := by simp [accV]
theorem accV_back (l : List Vl) : ∀ d m : Nat, m + d = l.length → accV l (back l.length m) = listV (l.drop m)
  | 0, m, h => by
    have hm : m = l.length := by omega
    subst hm
    rw [back_full, List.drop_eq_nil_of_le (Nat.le_refl _)]
    rfl
  | d + 1, m, h => by
    have hm : m < l.length := by omega
    rw [back_step hm, accV_snoc, accV_back l d (m + 1) (by omega), List.drop_eq_getElem_cons hm]
    rfl
/-- what lies in cells of B is there still -/
structure SameS (B : Nat → Prop) (w w' : World) : Prop where
  size : w.heap.size ≤ w'.heap.size
  cell : ∀ b i v, B b → w.cell? ⟨b, i, none⟩ = some v → w'.cell? ⟨b, i, none⟩ = some v
theorem RowB.keepS {w w' : World} {B : Nat → Prop} {c n : Nat} {u : Value} {R R' : Nat → List Value → Prop} (h : RowB w B c u n R) (hw : SameS B w w') (hR : ∀ j cs, R j cs → R' j cs) : RowB w' B c u n R' := by
  obtain ⟨A, cap, h1, h2, h3⟩ := h
  refine ⟨A, cap, h1, h2, fun hn => ?_⟩
  obtain ⟨b, off, h4, h5, h6, h7⟩ := h3 hn
  refine ⟨b, off, h4, h5, Nat.lt_of_lt_of_le h6 hw.size, fun j hj => ?_⟩
  obtain ⟨cs, h8, h9, h10⟩ := h7 j hj
  refine ⟨cs, h8, fun i hi => ?_, hR j cs h10⟩
  have := h9 i hi
  rw [List.getElem?_eq_getElem (by omega)] at this ⊢
  exact hw.cell b _ _ h5 this
theorem VB.keepS {w w' : World} {B : Nat → Prop} (hw : SameS B w w') : ∀ {k : Nat} {v : Vl} {cs : List Value}, VB k w B v cs → VB k w' B v cs
  | 0, _, _, h => h.elim
  | k + 1, .mk kind int text kids keys ents labels, cs, h => by
    obtain ⟨uk, uy, ue, ul, h1, h2, h3, h4, h5, h6, h7, h8⟩ := h
    refine ⟨uk, uy, ue, ul, h1, h2, h3, h4, h5.keepS hw ?_, h6.keepS hw fun _ _ h => h, h7.keepS hw ?_, h8.keepS hw fun _ _ h => h⟩
    · rintro j cs ⟨x, hx, hv⟩
      exact ⟨x, hx, VB.keepS hw hv⟩
    · rintro j cs ⟨args, fails, result, hx, ua, rs, hc, ha, hr⟩
      refine ⟨args, fails, result, hx, ua, rs, hc, ha.keepS hw ?_, VB.keepS hw hr⟩
      rintro j cs ⟨x, hx, hv⟩
      exact ⟨x, hx, VB.keepS hw hv⟩
theorem keepsOthers_below {W W' : World} (h : Below W.heap.size W W') : KeepsOthers W W' := ⟨h.size, fun k _ hk _ => (h.block k (Array.getElem?_eq_some_iff.1 hk).1).trans hk⟩
/-- the list's variable holds the elements that have come; the result's is as it was -/
def ListI (l : List Vl) (h : Nat) (w : World) (pre : List (Fin l.length)) (W : World) : Prop :=
  (∃ K cs, (∃ x0 x1 x2 x3 x4 x5 x6, cs = [x0, x1, x2, x3, x4, x5, x6]) ∧ W.heap[h + 2]? = some (.cells cs.toArray 27 (0, 0)) ∧ VB (K + 1) W (Aft (h + 3) W) (accV l pre) cs) ∧
    W.heap[h]? = some (.cells #[.int .i64 0, .int .i64 0, .string ⟨#[]⟩, .slice none 0 0, .slice none 0 0, .slice none 0 0, .slice none 0 0] 27 (0, 0)) ∧ Below h w W ∧ h + 3 < W.heap.size
theorem keeps_cells {W W' : World} {row : Option Nat} {b : Nat} {cs : Array Value} {t : TypeId} {fz : Nat × Nat} (hb : W.heap[b]? = some (.cells cs t fz)) (hg : W.grownBy W' row) (hr : ∀ r, row = some r → ∃ o : Obj, W.heap[r]? = some o ∧ o.isCells = false) : W'.heap[b]? = some (.cells cs t fz) := by
  refine (hg.block b (Array.getElem?_eq_some_iff.1 hb).1 fun e => ?_).trans hb
  obtain ⟨o, ho, hc⟩ := hr b e.symm
  rw [hb] at ho
  cases ho
  cases hc
theorem listI_own (l : List Vl) (h : Nat) (w : World) {B : Nat} (hw : h ≤ w.heap.size) (hB : h ≤ B) : OwnFrom B (ListI l h w) := by
  rintro pre W W' row ⟨⟨K, cs, hf, h1, h2⟩, h3, h4, h5⟩ hg hr
  have hr' := fun r e => (hr r e).2
  have hsz := hg.size
  refine ⟨⟨K, cs, hf, keeps_cells h1 hg hr', ?_⟩, keeps_cells h3 hg hr', h4.grown hg (Nat.le_trans hw h4.size) (fun r e => Nat.le_trans hB (hr r e).1), by omega⟩
  exact VB.sub (fun b hb => ⟨hb.1, Nat.lt_of_lt_of_le hb.2 hsz⟩) (Nat.le_refl _) (VB.keepS ⟨hsz, fun b i v _ hc => cell_kept hc hg hr'⟩ h2)
set_option maxRecDepth 100000 in
set_option maxHeartbeats 6400000 in
theorem list_any (k : Nat) (A : Option Addr) (cap : Nat) (l : List Vl) (w : World) (hl : RowP w w.heap.size 7 (.slice A l.length cap) l.length (fun j cs => ∃ x, l[j]? = some x ∧ VS k w w.heap.size x cs)) (hs : smlVs l) :
    Calls Tryz.prog 14 #[.slice A l.length cap] w fun e w' => ∃ cs K, e = .returned (.agg cs.toArray) ∧ VB K w' (Btw w.heap.size w'.heap.size) (listV l) cs ∧ Below w.heap.size w w' := by
  have hro : Fence.wide.round = none := rfl
  obtain ⟨A', cap', hA, hln, h3⟩ := hl
  injection hA with hA _ _
  subst hA
  obtain ⟨b, off, hbo⟩ : ∃ b off, 0 < l.length → A = some ⟨b, off, none⟩ ∧ b < w.heap.size ∧ ∀ j, j < l.length → ∃ cs : List Value, cs.length = 7 ∧ (∀ i, i < 7 → w.cell? ⟨b, off + j * 7 + i, none⟩ = cs[i]?) ∧ ∃ x, l[j]? = some x ∧ VS k w w.heap.size x cs := by
    by_cases hn : 0 < l.length
    · obtain ⟨b, off, h1, h2, _, h4⟩ := h3 hn
      exact ⟨b, off, fun _ => ⟨h1, h2, h4⟩⟩
    · exact ⟨0, 0, fun h => absurd h hn⟩
  have hch : ∀ i : Fin l.length, ∃ cs : List Value, (∃ x0 x1 x2 x3 x4 x5 x6, cs = [x0, x1, x2, x3, x4, x5, x6]) ∧ (∀ (j : Nat) (v : Value), cs[j]? = some v → w.cell? ⟨b, off + i.1 * 7 + j, none⟩ = some v) ∧ VS k w w.heap.size l[i] cs := by
    intro i
    obtain ⟨cs, h8, h9, x, hx, hv⟩ := (hbo (by have := i.2; omega)).2.2 i.1 i.2
    rw [List.getElem?_eq_getElem i.2] at hx
    injection hx with hx
    subst hx
    refine ⟨cs, ?_, fun j v hj => ?_, hv⟩
    · match cs, h8 with
      | [x0, x1, x2, x3, x4, x5, x6], _ => exact ⟨_, _, _, _, _, _, _, rfl⟩
    · have := (List.getElem?_eq_some_iff.1 hj).1
      exact (h9 j (by omega)).trans hj
  obtain ⟨ca, hca⟩ : ∃ ca : Fin l.length → List Value, ∀ i, (∃ x0 x1 x2 x3 x4 x5 x6, ca i = [x0, x1, x2, x3, x4, x5, x6]) ∧ (∀ (j : Nat) (v : Value), (ca i)[j]? = some v → w.cell? ⟨b, off + i.1 * 7 + j, none⟩ = some v) ∧ VS k w w.heap.size l[i] (ca i) :=
    ⟨fun i => Classical.choose (hch i), fun i => Classical.choose_spec (hch i)⟩
  clear hch h3
  refine (callsIn_wide (n := 6)).1 ?_
  refine callsIn_of_wp_marks Tryz.func14 rfl trivial ?_ hro
  simp only [Tryz.ntmps14, List.size_toArray, List.length_cons, List.length_nil, Nat.reduceAdd, Nat.reduceSub, Array.replicate_succ, Array.replicate_zero, List.push_toArray, List.append_toArray, List.nil_append, List.cons_append]
  gi_wp2_with (first | (refine ⟨trivial, ?_⟩; gi_at_call 41; refine (callsIn_wide.2 (nil_exact _)).mono ?_; rintro e w' ⟨rfl, rfl⟩) | (refine ⟨trivial, ?_⟩; gi_at_call 46; refine (callsIn_wide.2 (backward_any _ _ _ _)).mono ?_; rintro e w' ⟨rfl, rfl⟩))
  obtain ⟨W0, hW0⟩ : ∃ W0, W0 = (((w.alloc (.cells #[.int .i64 0, .int .i64 0, .string ⟨#[]⟩, .slice none 0 0, .slice none 0 0, .slice none 0 0, .slice none 0 0] 27)).alloc (.cells #[.int .i64 5, .int .i64 0, .string ⟨#[]⟩, .slice none 0 0, .slice none 0 0, .slice none 0 0, .slice none 0 0] 27)).alloc (.cells #[.int .i64 5, .int .i64 0, .string ⟨#[]⟩, .slice none 0 0, .slice none 0 0, .slice none 0 0, .slice none 0 0] 27)).alloc (.cells #[.slice A l.length cap'] 22) := ⟨_, rfl⟩
  rw [← hW0]
  have hz0 : W0.heap.size = w.heap.size + 4 := by rw [hW0]; simp
  have hB0 : Below w.heap.size w W0 := by rw [hW0]; exact ((((Below.refl _ _).alloc (Nat.le_refl _) _).alloc (by simp) _).alloc (by simp; omega) _).alloc (by simp; omega) _
  have kR : W0.heap[w.heap.size]? = some (.cells #[.int .i64 0, .int .i64 0, .string ⟨#[]⟩, .slice none 0 0, .slice none 0 0, .slice none 0 0, .slice none 0 0] 27 (0, 0)) := by rw [hW0, Below.heap_alloc _ _ _ (by simp; omega), Below.heap_alloc _ _ _ (by simp; omega), Below.heap_alloc _ _ _ (by simp)]; exact heap_alloc_new w _
  have kL : W0.heap[w.heap.size + 2]? = some (.cells #[.int .i64 5, .int .i64 0, .string ⟨#[]⟩, .slice none 0 0, .slice none 0 0, .slice none 0 0, .slice none 0 0] 27 (0, 0)) := by rw [hW0, Below.heap_alloc _ _ _ (by simp)]; exact new_at' _ (by simp)
  have kS : W0.cell? ⟨w.heap.size + 3, 0, none⟩ = some (.slice A l.length cap') := by
    have : W0.heap[w.heap.size + 3]? = some (.cells #[.slice A l.length cap'] 22 (0, 0)) := by rw [hW0]; exact new_at' _ (by simp)
    exact (Lib.cell_of_heap this 0).trans rfl
  clear hW0
  refine wpIn_rangeFunc_ownH hro (by omega) (gf := 87) (lb := #[.pointer (some ⟨w.heap.size + 1 + 1 + 1, 0, none⟩)]) rfl trivial (enters_of Tryz.func87 (by kernel_rfl) rfl)
    (encs := fun x : Fin l.length => #[.int .i64 (x.1 : Int), .agg (ca x).toArray]) (Kp := KpB w.heap.size (w.heap.size + 3)) (S := fun ys => ys = back l.length 0) (Sp := fun _ => True) (N := l.length) (w0 := W0)
    (fun q J Jx W hW _ _ hY h0 => backward1_in 5 (by omega) q (w.heap.size + 3) w.heap.size b off l.length cap' A (fun h => (hbo h).1) ca hln.1 (fun h => (hbo h).2.1) J Jx (fun i => (hca i).1) hY W ((hW.cell (p := ⟨w.heap.size + 3, 0, none⟩) (by show w.heap.size + 3 < _; omega)).trans kS) (fun i j v hv => ((hB0.trans (hW.mono (by omega))).cell (p := ⟨b, off + i.1 * 7 + j, none⟩) ((hbo (by have := i.2; omega)).2.1)).trans ((hca i).2.1 j v hv)) h0)
    (fun h1 h2 => ⟨h1.1.trans h2.1, h2.2.trans h1.2⟩)
    (fun W q o o' hq ho hc hw => ⟨belowK_b (w := W0) (by omega) W q o o' hq ho hc hw, World.putObj_heap_other (by omega)⟩)
    (Below.refl _ _) (fun _ => rfl)
    (ListI l w.heap.size w) (fun _ _ _ => False) (listI_own l w.heap.size w (Nat.le_refl _) (by omega)) (fun _ _ _ _ _ hs _ _ => hs)
    ⟨⟨0, _, ⟨_, _, _, _, _, _, _, rfl⟩, kL, nilVB 0 _ _⟩, kR, hB0, by omega⟩
    (fun x a' W => ∃ Bx, w.heap.size + 3 < Bx ∧ W.heap[Bx]? = some (.cells (ca x).toArray 27 (0, 0)) ∧ a' = { tmps := #[.slice A l.length cap', undef, .pointer (some ⟨w.heap.size, 0, none⟩), .pointer (some ⟨w.heap.size + 1 + 1, 0, none⟩), undef, .pointer (some ⟨Bx, 0, none⟩), .agg #[.int .i64 5, .int .i64 0, .string ⟨#[]⟩, .slice none 0 0, .slice none 0 0, .slice none 0 0, .slice none 0 0], .slice A l.length cap', .func (.func 87) #[] #[.pointer (some ⟨w.heap.size + 1 + 1 + 1, 0, none⟩)], .int .i64 (x.1 : Int), .agg (ca x).toArray, undef, undef, undef, undef, undef], defers := [] })
    (fun x a' _ W W' row ⟨Bx, h1, h2, h3⟩ hg hr => ⟨Bx, h1, keeps_cells h2 hg (fun r e => (hr r e).2), h3⟩) ?assign ?body ?done ?stop
  case assign =>
    intro q pre x W K hi hK
    obtain ⟨a1, i1, s1, B11, n11, d11, B21, n21, d21, B31, n31, d31, B41, n41, d41, hx⟩ := (hca x).2.2.form7
    rw [hx] at hK ⊢
    have hI := (listI_own l w.heap.size w (B := W0.heap.size) (Nat.le_refl _) (by omega)).alloc (.cells #[.int .i64 a1, .int .i64 i1, .string s1, .slice B11 n11 d11, .slice B21 n21 d21, .slice B31 n31 d31, .slice B41 n41 d41] 27) hi
    have h5 := hi.2.2.2
    gi_wp2
    exact hK _ _ ((KeepsOthers.alloc _ _).from _) ⟨(Below.refl _ W).alloc (by omega) _, Below.heap_alloc _ _ _ (by omega)⟩ hI ⟨W.heap.size, by omega, heap_alloc_new W _, rfl⟩
  case body =>
    rintro q pre x a' W hq ⟨r, hr⟩ ⟨⟨K, cs, hf, h1, h2⟩, h3, h4, h5⟩ ⟨Bx, hBx, bX, rfl⟩ hlt
    obtain ⟨a1, i1, s1, B11, n11, d11, B21, n21, d21, B31, n31, d31, B41, n41, d41, hx⟩ := (hca x).2.2.form7
    rw [hx] at bX ⊢
    obtain ⟨a2, i2, s2, B12, n12, d12, B22, n22, d22, B32, n32, d32, B42, n42, d42, rfl⟩ := h2.form7
    have HC : Hid (∀ V, Below w.heap.size w V → Calls Tryz.prog 45 #[.agg #[.int .i64 a1, .int .i64 i1, .string s1, .slice B11 n11 d11, .slice B21 n21 d21, .slice B31 n31 d31, .slice B41 n41 d41]] V fun e w' => ∃ cs', e = .returned (.agg cs'.toArray) ∧ VB k w' (Btw V.heap.size w'.heap.size) l[x] cs' ∧ Below V.heap.size V w') := Lib.hid fun V hV => clone_any k l[x] _ V (VS.up hV.size (Nat.le_refl _) (VS.on hV (hx ▸ (hca x).2.2))) (smlVs_iff.1 hs _ (List.getElem_mem _))
    obtain ⟨e0, e1, e2, e3, e4, e5, e6⟩ := cells7 bX
    obtain ⟨g0, g1, g2, g3, g4, g5, g6⟩ := cells7 h1
    obtain ⟨z0, z1, z2, z3, z4, z5, z6⟩ := frozen7 h1
    have HX := Lib.hid hx
    have H1 := Lib.hid h1
    have H2 := Lib.hid h2
    have H3 := Lib.hid h3
    have H4 := Lib.hid h4
    have HBX := Lib.hid bX
    have H5 := Lib.hid h5
    clear hx h1 h2 h3 h4 bX hf hca h5
    have hmx : Tryz.prog.follows .mixedOrders = true := by kernel_rfl
    gi_wp2
    gi_region_with_o (first | (refine ⟨trivial, ?_⟩; gi_at_call 45; refine (CallsIn.inRound q (callsIn_wide.2 (HC.out _ H4.out.drew))).mono ?_; rintro e w1 ⟨cs1, rfl, hv1, hb1⟩; obtain ⟨a3, i3, s3, B13, n13, d13, B23, n23, d23, B33, n33, d33, B43, n43, d43, rfl⟩ := hv1.form7; have k1 : w1.heap[w.heap.size + 2]? = some (.cells #[.int .i64 a2, .int .i64 i2, .string s2, .slice B12 n12 d12, .slice B22 n22 d22, .slice B32 n32 d32, .slice B42 n42 d42] 27 (0, 0)) := (hb1.block _ (by show w.heap.size + 2 < W.heap.size; have := H5.out; omega)).trans H1.out; have pa0 : w1.cell? ⟨w.heap.size + 1 + 1, 0, none⟩ = some (.int .i64 a2) := (Lib.cell_of_heap k1 0).trans rfl; have pa1 : w1.cell? ⟨w.heap.size + 1 + 1, 1, none⟩ = some (.int .i64 i2) := (Lib.cell_of_heap k1 1).trans rfl; have pa2 : w1.cell? ⟨w.heap.size + 1 + 1, 2, none⟩ = some (.string s2) := (Lib.cell_of_heap k1 2).trans rfl; have pa3 : w1.cell? ⟨w.heap.size + 1 + 1, 3, none⟩ = some (.slice B12 n12 d12) := (Lib.cell_of_heap k1 3).trans rfl; have pa4 : w1.cell? ⟨w.heap.size + 1 + 1, 4, none⟩ = some (.slice B22 n22 d22) := (Lib.cell_of_heap k1 4).trans rfl; have pa5 : w1.cell? ⟨w.heap.size + 1 + 1, 5, none⟩ = some (.slice B32 n32 d32) := (Lib.cell_of_heap k1 5).trans rfl; have pa6 : w1.cell? ⟨w.heap.size + 1 + 1, 6, none⟩ = some (.slice B42 n42 d42) := (Lib.cell_of_heap k1 6).trans rfl; have K1 := Lib.hid k1; clear k1; have HV1 := Lib.hid hv1; clear hv1; have HB1 := Lib.hid hb1; clear hb1; have HA := Lib.hid (cons_any (k + K + 1) (w.heap.size + 4) l[x] (accV l pre) _ _ w1 (by have := HB1.out.size; have := H5.out; have : W.drew.heap.size = W.heap.size := rfl; omega) (VB.sub (fun b hb => ⟨by have := hb.1; have := H5.out; have : W.drew.heap.size = W.heap.size := rfl; omega, hb.2⟩) (by omega) HV1.out) (VB.sub (fun b hb => ⟨by have := hb.1; omega, by have := hb.2; have := HB1.out.size; have : W.drew.heap.size = W.heap.size := rfl; omega⟩) (by omega) (VB.keep (Same.trans (show Same _ W W.drew from ⟨Nat.le_refl _, fun _ _ _ _ => rfl⟩) (.of_below HB1.out (fun _ hb => hb.2))) H2.out)))) | (refine ⟨trivial, ?_⟩; gi_at_call 47; refine (CallsIn.inRound q (callsIn_wide.2 HA.out)).mono ?_; rintro e w2 ⟨cs2, rfl, hv2, hb2⟩; obtain ⟨a4, i4, s4, B14, n14, d14, B24, n24, d24, B34, n34, d34, B44, n44, d44, rfl⟩ := hv2.form7; have k2 : w2.heap[w.heap.size + 2]? = some (.cells #[.int .i64 a2, .int .i64 i2, .string s2, .slice B12 n12 d12, .slice B22 n22 d22, .slice B32 n32 d32, .slice B42 n42 d42] 27 (0, 0)) := (hb2.block _ (by have := HB1.out.size; have := H5.out; have : W.drew.heap.size = W.heap.size := rfl; omega)).trans K1.out; have pb0 : w2.cell? ⟨w.heap.size + 1 + 1, 0, none⟩ = some (.int .i64 a2) := (Lib.cell_of_heap k2 0).trans rfl; have pc0 := Lib.frozen_of_heap k2 0; have pb1 : w2.cell? ⟨w.heap.size + 1 + 1, 1, none⟩ = some (.int .i64 i2) := (Lib.cell_of_heap k2 1).trans rfl; have pc1 := Lib.frozen_of_heap k2 1; have pb2 : w2.cell? ⟨w.heap.size + 1 + 1, 2, none⟩ = some (.string s2) := (Lib.cell_of_heap k2 2).trans rfl; have pc2 := Lib.frozen_of_heap k2 2; have pb3 : w2.cell? ⟨w.heap.size + 1 + 1, 3, none⟩ = some (.slice B12 n12 d12) := (Lib.cell_of_heap k2 3).trans rfl; have pc3 := Lib.frozen_of_heap k2 3; have pb4 : w2.cell? ⟨w.heap.size + 1 + 1, 4, none⟩ = some (.slice B22 n22 d22) := (Lib.cell_of_heap k2 4).trans rfl; have pc4 := Lib.frozen_of_heap k2 4; have pb5 : w2.cell? ⟨w.heap.size + 1 + 1, 5, none⟩ = some (.slice B32 n32 d32) := (Lib.cell_of_heap k2 5).trans rfl; have pc5 := Lib.frozen_of_heap k2 5; have pb6 : w2.cell? ⟨w.heap.size + 1 + 1, 6, none⟩ = some (.slice B42 n42 d42) := (Lib.cell_of_heap k2 6).trans rfl; have pc6 := Lib.frozen_of_heap k2 6; have K2 := Lib.hid k2; clear k2; have HV2 := Lib.hid hv2; clear hv2; have HB2 := Lib.hid hb2; clear hb2))
    all_goals gi_wp2
    all_goals
      have hd : W.drew.heap.size = W.heap.size := rfl
      have h5 := H5.out
      have s1 := HB1.out.size
      have s2 := HB2.out.size
      have hWw : Below w.heap.size W w2 := ((Below.refl _ W).drew.trans (HB1.out.mono (by have := H4.out.size; omega))).trans (HB2.out.mono (by have := H4.out.size; omega))
      have HB2x := hWw
      obtain ⟨V, hV⟩ : ∃ V, V = (((((((w2.setCell ⟨(w.heap.size + 1 + 1), 0, none⟩ (Value.int .i64 a4)).setCell ⟨(w.heap.size + 1 + 1), 1, none⟩ (Value.int .i64 i4)).setCell ⟨(w.heap.size + 1 + 1), 2, none⟩ (Value.string s4)).setCell ⟨(w.heap.size + 1 + 1), 3, none⟩ (Value.slice B14 n14 d14)).setCell ⟨(w.heap.size + 1 + 1), 4, none⟩ (Value.slice B24 n24 d24)).setCell ⟨(w.heap.size + 1 + 1), 5, none⟩ (Value.slice B34 n34 d34)).setCell ⟨(w.heap.size + 1 + 1), 6, none⟩ (Value.slice B44 n44 d44)) := ⟨_, rfl⟩
      rw [← hV]
      have hWV : Below w.heap.size W V := by rw [hV]; exact Below.setCell (Below.setCell (Below.setCell (Below.setCell (Below.setCell (Below.setCell (Below.setCell (HB2x) (p := ⟨w.heap.size + 1 + 1, 0, none⟩) (by show w.heap.size ≤ w.heap.size + 1 + 1; omega) _) (p := ⟨w.heap.size + 1 + 1, 1, none⟩) (by show w.heap.size ≤ w.heap.size + 1 + 1; omega) _) (p := ⟨w.heap.size + 1 + 1, 2, none⟩) (by show w.heap.size ≤ w.heap.size + 1 + 1; omega) _) (p := ⟨w.heap.size + 1 + 1, 3, none⟩) (by show w.heap.size ≤ w.heap.size + 1 + 1; omega) _) (p := ⟨w.heap.size + 1 + 1, 4, none⟩) (by show w.heap.size ≤ w.heap.size + 1 + 1; omega) _) (p := ⟨w.heap.size + 1 + 1, 5, none⟩) (by show w.heap.size ≤ w.heap.size + 1 + 1; omega) _) (p := ⟨w.heap.size + 1 + 1, 6, none⟩) (by show w.heap.size ≤ w.heap.size + 1 + 1; omega) _
      have hob : V.heap[w.heap.size + 2]? = some (.cells #[Value.int .i64 a4, Value.int .i64 i4, Value.string s4, Value.slice B14 n14 d14, Value.slice B24 n24 d24, Value.slice B34 n34 d34, Value.slice B44 n44 d44] 27 (0, 0)) := by rw [hV]; exact obj7 K2.out (Value.int .i64 a4) (Value.int .i64 i4) (Value.string s4) (Value.slice B14 n14 d14) (Value.slice B24 n24 d24) (Value.slice B34 n34 d34) (Value.slice B44 n44 d44)
      have hoth : ∀ b, b ≠ w.heap.size + 1 + 1 → V.heap[b]? = w2.heap[b]? := by
        intro b hb
        rw [hV]
        repeat rw [heap_setCell_other _ _ _ _ hb]
      have hblk : ∀ b, b < W.heap.size → b ≠ w.heap.size + 1 + 1 → V.heap[b]? = W.heap[b]? := fun b h1 h2 => (hoth b h2).trans ((HB2.out.block b (by omega)).trans (HB1.out.block b (by omega)))
      have hszV : V.heap.size = w2.heap.size := by rw [hV]; simp
      have hsm : Same (Btw (w.heap.size + 4) w2.heap.size) w2 V := by rw [hV]; exact same_setCell (same_setCell (same_setCell (same_setCell (same_setCell (same_setCell (same_setCell ((Same.refl _ _)) (fun h => by have := h.1; omega)) (fun h => by have := h.1; omega)) (fun h => by have := h.1; omega)) (fun h => by have := h.1; omega)) (fun h => by have := h.1; omega)) (fun h => by have := h.1; omega)) (fun h => by have := h.1; omega)
      have hko : KeepsFrom W0.heap.size W V := by rw [hV]; exact KeepsOthers.from (((((((((KeepsOthers.drew W).trans ((keepsOthers_below HB1.out).trans (keepsOthers_below HB2.out))).trans (KeepsOthers.setCell _ _ _)).trans (KeepsOthers.setCell _ _ _)).trans (KeepsOthers.setCell _ _ _)).trans (KeepsOthers.setCell _ _ _)).trans (KeepsOthers.setCell _ _ _)).trans (KeepsOthers.setCell _ _ _)).trans (KeepsOthers.setCell _ _ _)) _
      refine ⟨hko, ⟨hWV, hblk _ (by omega) (by omega)⟩, ⟨k + K + 1, _, ⟨_, _, _, _, _, _, _, rfl⟩, hob, ?_⟩, (hblk _ (by omega) (by omega)).trans H3.out, H4.out.trans hWV, by omega⟩
      rw [accV_snoc]
      exact VB.sub (fun b hb => ⟨by have := hb.1; omega, by have := hb.2; omega⟩) (Nat.le_refl _) (VB.keep hsm HV2.out)
  case done =>
    rintro D ys W hD rfl ⟨⟨K, cs, hf, h1, h2⟩, h3, h4, h5⟩ hK
    obtain ⟨a1, i1, s1, B11, n11, d11, B21, n21, d21, B31, n31, d31, B41, n41, d41, rfl⟩ := h2.form7
    obtain ⟨g0, g1, g2, g3, g4, g5, g6⟩ := cells7 h1
    obtain ⟨e0, e1, e2, e3, e4, e5, e6⟩ := cells7 h3
    obtain ⟨z0, z1, z2, z3, z4, z5, z6⟩ := frozen7 h3
    gi_wp2
    obtain ⟨V, hV⟩ : ∃ V, V = (((((((W.setCell ⟨w.heap.size, 0, none⟩ (Value.int .i64 a1)).setCell ⟨w.heap.size, 1, none⟩ (Value.int .i64 i1)).setCell ⟨w.heap.size, 2, none⟩ (Value.string s1)).setCell ⟨w.heap.size, 3, none⟩ (Value.slice B11 n11 d11)).setCell ⟨w.heap.size, 4, none⟩ (Value.slice B21 n21 d21)).setCell ⟨w.heap.size, 5, none⟩ (Value.slice B31 n31 d31)).setCell ⟨w.heap.size, 6, none⟩ (Value.slice B41 n41 d41)) := ⟨_, rfl⟩
    rw [← hV]
    have hob : V.heap[w.heap.size]? = some (.cells #[Value.int .i64 a1, Value.int .i64 i1, Value.string s1, Value.slice B11 n11 d11, Value.slice B21 n21 d21, Value.slice B31 n31 d31, Value.slice B41 n41 d41] 27 (0, 0)) := by rw [hV]; exact obj7 h3 (Value.int .i64 a1) (Value.int .i64 i1) (Value.string s1) (Value.slice B11 n11 d11) (Value.slice B21 n21 d21) (Value.slice B31 n31 d31) (Value.slice B41 n41 d41)
    have hBV : Below w.heap.size w V := by rw [hV]; exact Below.setCell (Below.setCell (Below.setCell (Below.setCell (Below.setCell (Below.setCell (Below.setCell (h4) (p := ⟨w.heap.size, 0, none⟩) (Nat.le_refl _) _) (p := ⟨w.heap.size, 1, none⟩) (Nat.le_refl _) _) (p := ⟨w.heap.size, 2, none⟩) (Nat.le_refl _) _) (p := ⟨w.heap.size, 3, none⟩) (Nat.le_refl _) _) (p := ⟨w.heap.size, 4, none⟩) (Nat.le_refl _) _) (p := ⟨w.heap.size, 5, none⟩) (Nat.le_refl _) _) (p := ⟨w.heap.size, 6, none⟩) (Nat.le_refl _) _
    have hszV : V.heap.size = W.heap.size := by rw [hV]; simp
    have hsm : Same (Aft (w.heap.size + 3) W) W V := by rw [hV]; exact same_setCell (same_setCell (same_setCell (same_setCell (same_setCell (same_setCell (same_setCell ((Same.refl _ _)) (fun h => by have := h.1; omega)) (fun h => by have := h.1; omega)) (fun h => by have := h.1; omega)) (fun h => by have := h.1; omega)) (fun h => by have := h.1; omega)) (fun h => by have := h.1; omega)) (fun h => by have := h.1; omega)
    have hKV : V.heap[D]? = some (.deferred (some [])) := by
      rw [hV]
      repeat rw [heap_setCell_other _ _ _ _ (by show D ≠ w.heap.size; omega)]
      exact hK
    refine ⟨by simp, .inl ⟨_, _, rfl, run_takeDeferred hKV, ?_⟩⟩
    have hgp := grownBy_putObj' V D (.deferred none)
    have hrp : ∀ r, some D = some r → ∃ o : Obj, V.heap[r]? = some o ∧ o.isCells = false := fun r e => by cases e; exact ⟨_, hKV, rfl⟩
    have hob2 := keeps_cells hob hgp hrp
    have ps0 : (V.putObj D (.deferred none)).cell? ⟨w.heap.size, 0, none⟩ = some (Value.int .i64 a1) := (Lib.cell_of_heap hob2 0).trans rfl
    have ps1 : (V.putObj D (.deferred none)).cell? ⟨w.heap.size, 1, none⟩ = some (Value.int .i64 i1) := (Lib.cell_of_heap hob2 1).trans rfl
    have ps2 : (V.putObj D (.deferred none)).cell? ⟨w.heap.size, 2, none⟩ = some (Value.string s1) := (Lib.cell_of_heap hob2 2).trans rfl
    have ps3 : (V.putObj D (.deferred none)).cell? ⟨w.heap.size, 3, none⟩ = some (Value.slice B11 n11 d11) := (Lib.cell_of_heap hob2 3).trans rfl
    have ps4 : (V.putObj D (.deferred none)).cell? ⟨w.heap.size, 4, none⟩ = some (Value.slice B21 n21 d21) := (Lib.cell_of_heap hob2 4).trans rfl
    have ps5 : (V.putObj D (.deferred none)).cell? ⟨w.heap.size, 5, none⟩ = some (Value.slice B31 n31 d31) := (Lib.cell_of_heap hob2 5).trans rfl
    have ps6 : (V.putObj D (.deferred none)).cell? ⟨w.heap.size, 6, none⟩ = some (Value.slice B41 n41 d41) := (Lib.cell_of_heap hob2 6).trans rfl
    have hszP : (V.putObj D (.deferred none)).heap.size = V.heap.size := by simp
    refine ⟨.agg #[Value.int .i64 a1, Value.int .i64 i1, Value.string s1, Value.slice B11 n11 d11, Value.slice B21 n21 d21, Value.slice B31 n31 d31, Value.slice B41 n41 d41], by simp [results, Tryz.f14, go_sem, ps0, ps1, ps2, ps3, ps4, ps5, ps6], _, K + 1, rfl, ?_, hBV.trans (belowK_b (w := W0) (by omega) V D _ _ hD hKV rfl rfl)⟩
    have hac : accV l (back l.length 0) = listV l := accV_back l l.length 0 (by omega)
    rw [hac] at h2
    exact VB.sub (fun b hb => ⟨by have := hb.1; omega, by have := hb.2; omega⟩) (Nat.le_refl _) (VB.keepS ⟨by omega, fun b i v _ hc => cell_kept hc hgp hrp⟩ (VB.keep hsm h2))
  case stop =>
    rintro D c pre W _ _ h _
    exact h.elim
end Go.Proofs.YtjfknigiehggkaaGreat
