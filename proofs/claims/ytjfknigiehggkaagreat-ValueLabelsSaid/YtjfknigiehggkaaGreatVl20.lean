/- slices.Sorted of slices.Values: the strings of a slice in ascending order, in memory of the call's own; slices.Compact. A range over a function. -/
import Derived.Test.YtjfknigiehggkaaGreatVl01
import Derived.Test.YtjfknigiehggkaaGreatVl14
import Derived.Test.YtjfknigiehggkaaGreatVl18
import Derived.Test.YtjfknigiehggkaaGreatVl19
import Derived.Test.YtjfknigiehggkaaGreatVlShelfD
import Derived.OwnWalkIn
import Derived.Maps.AppendAt
import Derived.Shelf.Slices.In.SortNone
namespace Go.Proofs.YtjfknigiehggkaaGreat
open Go Go.RowKit Go.Sort Go.Shelf Go.Proofs
attribute [local go_sem] Oper.semAt_some
theorem Tryz.sortS_string (blk off cap : Nat) (ss : List Strg) (w : World) (hH : Holds encStr w blk off ss.toArray) (hblk : blk < w.heap.size) (hsz : ss.length < 4611686018427387904) :
    Calls Tryz.prog 108 #[.slice (some ⟨blk, off, none⟩) ss.length cap] w fun e w' => e = .returned (.tuple #[]) ∧ ∃ n os, w' = grow (putRow encStr (Sort.ahead w n) blk off (ss.mergeSort fun x y => decide (x ≤ y)).toArray) os :=
  Any.slices_Sort_string Tryz.laysSortS blk off cap ss w hH hblk hsz
theorem Tryz.sortS_none (p : Option Addr) (cap : Nat) (w : World) :
    Calls Tryz.prog 108 #[.slice p 0 cap] w fun e w' => e = .returned (.tuple #[]) ∧ w' = w :=
  calls_of_every_depth fun D => AnyS.slices_Sort_string_none_in Tryz.laysSortS D p cap w
theorem own_of_put {w : World} {B g n cap q m : Nat} {ss : List Strg} {d : Array Strg} {os : Array Obj} (h : OwnN w B (.slice (some ⟨g, 0, none⟩) n cap) ss) (hn : ss.length = n) (hd : d.size = n) (hm : m ≤ n) :
    OwnN (grow (putRow encStr (Sort.ahead w q) g 0 d) os) B (.slice (some ⟨g, 0, none⟩) m cap) (d.toList.take m) ∧ w.grownBy (grow (putRow encStr (Sort.ahead w q) g 0 d) os) (some g) := by
  subst hn
  rcases h.2 with ⟨h', _⟩ | ⟨g', cap', cur, h', hb, hg, hnc, hcm, hcs, htake⟩
  · simp at h'
  · simp only [Value.slice.injEq, Option.some.injEq, Addr.mk.injEq, and_true, true_and] at h'
    obtain ⟨rfl, rfl⟩ := h'
    have hlt : g < w.heap.size := (Array.getElem?_eq_some_iff.1 hg).1
    have hh : (grow (putRow encStr (Sort.ahead w q) g 0 d) os).heap[g]? = some (.cells (putCells encStr 0 d cur) 9 (0, 0)) := by
      rw [heap_grow_old _ _ (by simpa [putRow, mapBlock, Sort.ahead] using hlt)]
      simp [putRow, mapBlock, Sort.ahead, Array.getElem?_modify, hg, onCells]
    have hl : (d.toList.take m).length = m := by rw [List.length_take, Array.length_toList]; omega
    refine ⟨⟨by simp, .inr ⟨g, cap, _, by rw [hl], hb, hh, by rw [hl]; omega, hcm, by simp [putCells, hcs], ?_⟩⟩, rfl, rfl, rfl, ?_, fun k hk hne => ?_⟩
    · rw [hl]
      apply List.ext_getElem?
      intro j
      by_cases hj : j < m
      · rw [List.getElem?_take_of_lt (by omega), Array.getElem?_toList, List.getElem?_map, List.getElem?_take_of_lt hj, Array.getElem?_toList]
        have hc : j < cur.size := by omega
        have hdj : j < d.size := by omega
        simp [putCells, hc, hdj]
      · rw [List.getElem?_take_eq_none (by omega), List.getElem?_eq_none (by rw [List.length_map, hl]; omega)]
    · simp [putRow, mapBlock, Sort.ahead, grow]
    · rw [heap_grow_old _ _ (by simpa [putRow, mapBlock, Sort.ahead] using hk)]
      have : g ≠ k := fun e => hne (by rw [e])
      simp [putRow, mapBlock, Sort.ahead, Array.getElem?_modify, this]
theorem sortS_any (v : Value) (ss : List Strg) (w : World) (B : Nat) (hO : OwnN w B v ss) (hB : B ≤ w.heap.size) (hn : ss.length ≤ 1000000000) :
    Calls Tryz.prog 108 #[v] w fun e w' => e = .returned (.tuple #[]) ∧ OwnN w' B v (ss.mergeSort fun x y => decide (x ≤ y)) ∧ Below B w w' := by
  rcases Nat.eq_zero_or_pos ss.length with h0 | h0
  · have hr : ss = [] := List.eq_nil_of_length_eq_zero h0
    subst hr
    obtain ⟨A, c, rfl⟩ := hO.form
    exact (Tryz.sortS_none A c w).mono fun e w' ⟨he, hw⟩ => ⟨he, by rw [hw, List.mergeSort_nil]; exact hO, by rw [hw]; exact Below.refl _ _⟩
  · obtain ⟨g, c, rfl, hBg, hgs, hlc⟩ := hO.formG h0
    refine (Tryz.sortS_string g 0 c ss w (hO.holds rfl) hgs (by omega)).mono fun e w' ⟨he, q, os, hw⟩ => ?_
    have hl : (ss.mergeSort fun x y => decide (x ≤ y)).length = ss.length := List.length_mergeSort _
    have := own_of_put (q := q) (os := os) (m := ss.length) (d := (ss.mergeSort fun x y => decide (x ≤ y)).toArray) hO rfl (by simp) (Nat.le_refl _)
    rw [← hw] at this
    refine ⟨he, ?_, (Below.refl _ _).grown this.2 hB (fun k hk => by injection hk with hk; omega)⟩
    have h1 := this.1
    rw [List.take_of_length_le (by simp)] at h1
    simpa using h1
theorem compactS_any (v : Value) (ss : List Strg) (w : World) (B : Nat) (hO : OwnN w B v ss) (hB : B ≤ w.heap.size) (hn : ss.length ≤ 1000000000) :
    Calls Tryz.prog 72 #[v] w fun e w' => ∃ v', e = .returned v' ∧ OwnN w' B v' (Lib.compact ss) ∧ Below B w w' := by
  rcases Nat.eq_zero_or_pos ss.length with h0 | h0
  · have hr : ss = [] := List.eq_nil_of_length_eq_zero h0
    subst hr
    obtain ⟨A, c, rfl⟩ := hO.form
    exact (Tryz.slices_Compact_string_empty A c w).mono fun e w' ⟨he, hw⟩ => ⟨_, he, by rw [hw]; exact hO, by rw [hw]; exact Below.refl _ _⟩
  · obtain ⟨g, c, rfl, hBg, hgs, hlc⟩ := hO.formG h0
    have hcl : (Lib.compact ss).length ≤ ss.length := by
      unfold Lib.compact Lib.compactUpTo
      rw [List.length_map]
      simpa using List.length_filter_le (Lib.keeps ss.toArray) (List.range ss.length)
    refine (Tryz.slices_Compact_string g 0 c ss w (hO.holds rfl) (by omega) hlc).mono fun e w' ⟨he, q, hw⟩ => ?_
    have := own_of_put (q := q) (os := #[]) (m := (Lib.compact ss).length) (d := (Lib.compact ss ++ List.replicate (ss.length - (Lib.compact ss).length) []).toArray) hO rfl (by simp; omega) hcl
    rw [grow_empty, ← hw] at this
    refine ⟨_, he, ?_, (Below.refl _ _).grown this.2 hB (fun k hk => by injection hk with hk; omega)⟩
    have h1 := this.1
    rw [List.toList_toArray, List.take_left] at h1
    exact h1
theorem take_step {α : Type} {l : List α} {j : Nat} {x : α} (h : l[j]? = some x) : l.take j ++ [x] = l.take (j + 1) := by
  rw [List.take_add_one, h]
  rfl
set_option maxRecDepth 100000 in
set_option maxHeartbeats 2000000 in
theorem values1_in (n : Nat) (hn : 1 ≤ n) (q Bs n₀ b off N cap : Nat) (Ad : Option Addr) (ss : List Strg) (hl : ss.length = N) (hAd : 0 < N → Ad = some ⟨b, off, none⟩) (hN : N ≤ maxLen) (hb : 0 < N → b < n₀) (J Jx : List Strg → World → Prop)
    (hY : ∀ pre x W, J pre W → pre.length < N → YieldAt Fence.wide (n - 1) Tryz.prog q #[encStr x] W fun e W' =>
      (e = .returned (.bool true) ∧ J (pre ++ [x]) W' ∧ Below n₀ W W') ∨ (e = .returned (.bool false) ∧ Jx (pre ++ [x]) W'))
    (W : World) (hBs : W.cell? ⟨Bs, 0, none⟩ = some (.slice Ad N cap)) (hc : ∀ (j : Nat) (x : Strg), ss[j]? = some x → W.cell? ⟨b, off + j, none⟩ = some (encStr x)) (h0 : J [] W) :
    CallsIn Fence.wide n Tryz.prog 109 #[.func (.yield q) #[] #[], .pointer (some ⟨Bs, 0, none⟩)] W fun e W' => (∃ v, e = .returned v) ∧
      ((∃ ys, ys = ss ∧ J ys W') ∨ (∃ pre, True ∧ Jx pre W')) := by
  have hro : Fence.wide.round = none := rfl
  unfold maxLen at hN
  refine callsIn_of_wp Tryz.func109 rfl trivial ?_ hro
  simp only [Tryz.ntmps109, List.size_toArray, List.length_cons, List.length_nil, Nat.reduceAdd, Nat.reduceSub, Array.replicate_succ, Array.replicate_zero, List.push_toArray, List.append_toArray, List.nil_append, List.cons_append]
  have HL := Lib.hid hl
  clear hl
  gi_wp2
  gi_loopw [7] (fun p wr => ∃ j : Nat, p = .int .i64 (j : Int) ∧ j ≤ N ∧ Hid (J (ss.take j) wr) ∧ Hid (Below n₀ W wr)) (fun p _ => N - (intOf p).toNat)
  case atStart => exact ⟨0, rfl, Nat.zero_le _, Lib.hid (by simpa using h0), Lib.hid (Below.refl _ _)⟩
  case round =>
    obtain ⟨j, rfl, hj, hJs, hnx⟩ := hrel
    by_cases hjN : j < N
    · obtain ⟨x, hx⟩ : ∃ x, ss[j]? = some x := ⟨_, List.getElem?_eq_getElem (by have := HL.out; omega)⟩
      rw [hAd (by omega)] at hBs
      have hA2 := hAd (by omega)
      subst hA2
      have l0 := (hnx.out.cell (p := ⟨b, off + j, none⟩) (hb (by omega))).trans (hc j x hx)
      obtain ⟨fn, tmps, assign, body, hy, hR⟩ := hY _ x wr hJs.out (by rw [List.length_take]; have := HL.out; omega)
      have kn : (j : Int) < (N : Int) := by omega
      have k0 : (0 : Int) ≤ (j : Int) := by omega
      have hw1 : IntKind.i64.wrap ((j : Int) + 1) = (j : Int) + 1 := IntWalk.i64_in _ (by omega)
      have HX := Lib.hid hx
      clear hc hY hAd hb hx
      gi_wp2
      refine hR.mono ?_
      rintro e W3 (⟨rfl, hJ3, hk3⟩ | ⟨rfl, hJx3⟩)
      · gi_wp2
        go_roundw
        case rel => exact ⟨j + 1, by go_num, by omega, Lib.hid (by rw [← take_step HX.out]; exact hJ3), Lib.hid (hnx.out.trans hk3)⟩
        case measure => simp [intOf]; try omega
      · gi_wp2
        refine bodyPost_ret (results_none rfl _ _ _) rfl ?_
        exact ⟨⟨_, rfl⟩, .inr ⟨_, trivial, hJx3⟩⟩
    · have kn : ¬ (j : Int) < (N : Int) := by omega
      have hJe : J ss wr := by
        have h := hJs.out
        rw [List.take_of_length_le (by have := HL.out; omega)] at h
        exact h
      gi_wp2
      go_end0
      exact ⟨⟨_, rfl⟩, .inl hJe⟩
set_option maxHeartbeats 1000000 in
theorem valuesS_any (a : Option Addr) (len cap : Nat) (w : World) :
    Calls Tryz.prog 74 #[.slice a len cap] w fun e w' => e = .returned (.func (.func 109) #[] #[.pointer (some ⟨w.heap.size, 0, none⟩)]) ∧ w' = w.alloc (.cells #[.slice a len cap] 25) := by
  have hmf : ∀ (fn : Fn) (first cap : Array Value) (w : World), (Instr.makeFunc fn first cap).run Tryz.prog w = .ok (.func fn first cap) w := fun _ _ _ _ => rfl
  go_enter Tryz.func74, Tryz.ntmps74
  go_wp2
  go_ret
  exact ⟨rfl, rfl⟩
/-- the box holds what has come -/
def ApI (w : World) (pre : List Strg) (W : World) : Prop := ∃ v, Boxed W w.heap.size 25 v ∧ W.ownsRow w.heap.size 9 1 v pre.length (pre.map encStr) ∧ Below w.heap.size w W
theorem own_row_ne {W : World} {base : Nat} {e : TypeId} {size : Nat} {v : Value} {k : Nat} {xs : List Value} (h : W.ownsRow base e size v k xs) {row : Option Nat} (hr : ∀ r, row = some r → ∃ o : Obj, W.heap[r]? = some o ∧ o.isCells = false) : v.ownBlock = none ∨ v.ownBlock ≠ row := by
  rcases h.2 with ⟨rfl, _⟩ | ⟨g, cap, cur, rfl, _, hg, _⟩
  · exact .inl rfl
  · refine .inr fun e' => ?_
    obtain ⟨o, ho, hc⟩ := hr g e'.symm
    rw [hg] at ho
    cases ho
    cases hc
theorem apI_own (w : World) {B : Nat} (hB : w.heap.size ≤ B) : OwnFrom B (ApI w) := by
  rintro pre W W' row ⟨v, h1, h2, h3⟩ hg hr
  have hr' := fun r e => (hr r e).2
  exact ⟨v, keeps_cells h1 hg hr', h2.kept hg (own_row_ne h2 hr'), h3.grown hg h3.size (fun r e => Nat.le_trans hB (hr r e).1)⟩
set_option maxRecDepth 100000 in
set_option maxHeartbeats 6400000 in
theorem appendSeq_any (A : Option Addr) (N cap Bs : Nat) (ss : List Strg) (w : World) (hBs : Bs < w.heap.size) (hS : w.cell? ⟨Bs, 0, none⟩ = some (.slice A N cap)) (hR : NmS w w.heap.size A N ss) (hn : N ≤ 1000000) :
    CallsIn Fence.wide 6 Tryz.prog 130 #[.slice none 0 0, .func (.func 109) #[] #[.pointer (some ⟨Bs, 0, none⟩)]] w fun e w' => ∃ v, e = .returned v ∧ OwnN w' w.heap.size v ss ∧ Below w.heap.size w w' := by
  have hro : Fence.wide.round = none := rfl
  obtain ⟨hl, hsh, hcell⟩ := hR
  obtain ⟨b, off, hbo⟩ : ∃ b off, 0 < N → A = some ⟨b, off, none⟩ ∧ b < w.heap.size ∧ ∀ (j : Nat) (x : Strg), ss[j]? = some x → w.cell? ⟨b, off + j, none⟩ = some (encStr x) := by
    by_cases h : 0 < N
    · obtain ⟨b, off, h1, h2, h3⟩ := hcell h
      exact ⟨b, off, fun _ => ⟨h1, h2, h3⟩⟩
    · exact ⟨0, 0, fun h' => absurd h' h⟩
  clear hcell
  have HL := Lib.hid hl
  refine callsIn_of_wp_marks Tryz.func130 rfl trivial ?_ hro
  simp only [Tryz.ntmps130, List.size_toArray, List.length_cons, List.length_nil, Nat.reduceAdd, Nat.reduceSub, Array.replicate_succ, Array.replicate_zero, List.push_toArray, List.append_toArray, List.nil_append, List.cons_append]
  gi_wp2
  obtain ⟨W0, hW0⟩ : ∃ W0, W0 = w.alloc (.cells #[.slice none 0 0] 25) := ⟨_, rfl⟩
  rw [← hW0]
  have hz0 : W0.heap.size = w.heap.size + 1 := by rw [hW0]; simp
  have hB0 : Below w.heap.size w W0 := by rw [hW0]; exact (Below.refl _ _).alloc (Nat.le_refl _) _
  have kB : Boxed W0 w.heap.size 25 (.slice none 0 0) := by rw [hW0]; exact Boxed.new w _ _
  clear hW0
  refine wpIn_rangeFunc_ownH hro (by omega) (gf := 109) (lb := #[.pointer (some ⟨Bs, 0, none⟩)]) rfl trivial (enters_of Tryz.func109 (by kernel_rfl) rfl)
    (encs := fun x : Strg => #[encStr x]) (Kp := fun W W' => Below w.heap.size W W') (S := fun ys => ys = ss) (Sp := fun _ => True) (N := N) (w0 := W0)
    (fun q J Jx W hW _ _ hY h0 => values1_in 5 (by omega) q Bs w.heap.size b off N cap A ss hl.symm (fun h => (hbo h).1) (by unfold maxLen; omega) (fun h => (hbo h).2.1) J Jx hY W ((hW.cell (p := ⟨Bs, 0, none⟩) (by show Bs < _; omega)).trans ((hB0.cell (p := ⟨Bs, 0, none⟩) hBs).trans hS))
      (fun j x hx => ((hB0.trans (hW.mono (by omega))).cell (p := ⟨b, _, none⟩) (hbo (by have := (List.getElem?_eq_some_iff.1 hx).1; omega)).2.1).trans ((hbo (by have := (List.getElem?_eq_some_iff.1 hx).1; omega)).2.2 j x hx)) h0)
    (fun h1 h2 => h1.trans h2)
    (fun W q o o' hq ho hc hw => belowK_b (w := W0) (by omega) W q o o' hq ho hc hw)
    (Below.refl _ _) (fun _ => rfl)
    (ApI w) (fun _ _ _ => False) (apI_own w (by omega)) (fun _ _ _ _ _ hs _ _ => hs)
    ⟨_, kB, World.ownsRow_nil _ _ _ _, hB0⟩
    (fun x a' W => a' = { tmps := #[.slice none 0 0, .func (.func 109) #[] #[.pointer (some ⟨Bs, 0, none⟩)], .pointer (some ⟨w.heap.size, 0, none⟩), undef, .slice none 0 0, encStr x, .func (.func 109) #[] #[.pointer (some ⟨Bs, 0, none⟩)], encStr x, undef, undef, undef, undef, undef], defers := [] })
    (fun x a' _ W W' row h hg hr => h) ?assign ?body ?done ?stop
  case assign =>
    intro q pre x W K hi hK
    gi_wp2
    exact hK _ _ (KeepsFrom.refl _ _) (Below.refl _ _) hi rfl
  case body =>
    rintro q pre x a' W hq ⟨r, hr⟩ ⟨v, hbx, hrow, hbw⟩ rfl hlt
    have hc2 := hbx.cell
    have hf2 := hbx.frozen
    have hsz := hbw.size
    obtain ⟨i0, hi, hz0', hz1, hz2⟩ := info_parts Tryz.infoStr
    have HB := Lib.hid (And.intro hbx (And.intro hrow hbw))
    have hte : (25 : TypeId) ≠ 9 := by decide
    gi_wp2_with (first
      | (gi_at_builtin; refine wpListIn_append_own _ rfl _ _ 25 rfl w.heap.size 9 i0 (.string ⟨#[]⟩) 1 16 Tryz.underlying25 hi hz0' hz1 hz2 rfl (by decide) _ _ _ rfl (HB.out.2.1.alloc _) ⟨W.heap.size, 0, none⟩ 1 1 [encStr x] rfl rfl (cell_one_new _ _ _) (by simp [Value.oneCell', encStr]) (by unfold maxLen; omega) (by omega) (by simp; omega) ?_; intro v' w3 hown' hg3 hnil3
         obtain ⟨g', cap', rfl⟩ := ownsRow_succ hown'
         obtain ⟨hbx3, hbx4, hrow4, hko4, hbe4⟩ := Boxed.appended HB.out.1 hte HB.out.2.1 hsz (Nat.le_refl _) hown' hg3
         have hc3 := hbx3.cell
         have hf3 := hbx3.frozen
         go_frame)
      | gi_in)
    refine ⟨hko4.from _, hbe4, ⟨_, hbx4, ?_, HB.out.2.2.trans hbe4⟩⟩
    rw [List.length_append, List.map_append]
    exact hrow4
  case done =>
    rintro D ys W hD rfl ⟨v, hbx, hrow, hbw⟩ hK
    have hc2 := hbx.cell
    gi_wp2
    refine ⟨by simp, .inl ⟨_, _, rfl, run_takeDeferred hK, ?_⟩⟩
    exact ⟨_, results_tmp rfl _ _ _, v, rfl, ownsRow_putObj hrow _ hK rfl, hbw.trans (belowK_b (w := W0) (by omega) W D _ _ hD hK rfl rfl)⟩
  case stop =>
    rintro D c pre W _ _ h _
    exact h.elim
set_option maxHeartbeats 1000000 in
theorem collectS_any (A : Option Addr) (N cap Bs : Nat) (ss : List Strg) (w : World) (hBs : Bs < w.heap.size) (hS : w.cell? ⟨Bs, 0, none⟩ = some (.slice A N cap)) (hR : NmS w w.heap.size A N ss) (hn : N ≤ 1000000) :
    Calls Tryz.prog 107 #[.func (.func 109) #[] #[.pointer (some ⟨Bs, 0, none⟩)]] w fun e w' => ∃ v, e = .returned v ∧ OwnN w' w.heap.size v ss ∧ Below w.heap.size w w' := by
  have h := callsIn_wide.1 (appendSeq_any A N cap Bs ss w hBs hS hR hn)
  clear hS hR hn hBs
  go_enter Tryz.func107, Tryz.ntmps107
  go_wp2_with (go_at_call 130; refine h.mono ?_; rintro e w1 ⟨v, rfl, h1, h2⟩; refine Hid.out ?_)
  refine Lib.hid ?_
  go_wp2
  go_ret
  exact ⟨_, rfl, h1, h2⟩
set_option maxHeartbeats 1000000 in
theorem sortedS_any (A : Option Addr) (N cap Bs : Nat) (ss : List Strg) (w : World) (hBs : Bs < w.heap.size) (hS : w.cell? ⟨Bs, 0, none⟩ = some (.slice A N cap)) (hR : NmS w w.heap.size A N ss) (hn : N ≤ 1000000) :
    Calls Tryz.prog 73 #[.func (.func 109) #[] #[.pointer (some ⟨Bs, 0, none⟩)]] w fun e w' => ∃ v, e = .returned v ∧ OwnN w' w.heap.size v (ss.mergeSort fun x y => decide (x ≤ y)) ∧ Below w.heap.size w w' := by
  have h := collectS_any A N cap Bs ss w hBs hS hR hn
  have hl := hR.1
  clear hS hR hBs
  go_enter Tryz.func73, Tryz.ntmps73
  go_wp2_with (go_at_call 107; refine h.mono ?_; rintro e w1 ⟨v, rfl, h1, h2⟩; refine Hid.out ?_)
  refine Lib.hid ?_
  have hs := sortS_any v ss w1 w.heap.size h1 h2.size (by omega)
  clear h h1
  go_wp2_with (go_at_call 108; refine hs.mono ?_; rintro e w2 ⟨rfl, h3, h4⟩; refine Hid.out ?_)
  refine Lib.hid ?_
  go_wp2
  go_ret
  exact ⟨_, rfl, h3, h2.trans h4⟩
end Go.Proofs.YtjfknigiehggkaaGreat
namespace Go.Proofs.YtjfknigiehggkaaGreat
open Go Go.RowKit
set_option maxRecDepth 100000 in
set_option maxHeartbeats 3200000 in
theorem withLP_any (k : Nat) (v : Vl) (cs : List Value) (A : Option Addr) (n c : Nat) (ss : List Strg) (w : World) (hv : VS k w w.heap.size v cs) (hs : sml v) (hR : NmS w w.heap.size A n ss) (hn : n ≤ 1000000) :
    Calls Tryz.prog 32 #[.agg cs.toArray, .slice A n c] w fun e w' => ∃ cs', e = .returned (.agg cs'.toArray) ∧ VB k w' (Btw w.heap.size w'.heap.size) (withL (srt ss) v) cs' ∧ Below w.heap.size w w' := by
  obtain ⟨a, i, s, B1, n1, d1, B2, n2, d2, B3, n3, d3, B4, n4, d4, rfl⟩ := hv.form7
  obtain ⟨W, hW⟩ : ∃ W, W = (w.alloc (.cells #[.int .i64 a, .int .i64 i, .string s, .slice B1 n1 d1, .slice B2 n2 d2, .slice B3 n3 d3, .slice B4 n4 d4] 27)).alloc (.cells #[.int .i64 0, .int .i64 0, .string ⟨#[]⟩, .slice none 0 0, .slice none 0 0, .slice none 0 0, .slice none 0 0] 27) := ⟨_, rfl⟩
  have hbW : Below w.heap.size w W := by rw [hW]; exact ((Below.refl _ _).alloc (Nat.le_refl _) _).alloc (by simp) _
  have hzW : W.heap.size = w.heap.size + 2 := by rw [hW]; simp
  have k1 : W.heap[w.heap.size]? = some (.cells #[.int .i64 a, .int .i64 i, .string s, .slice B1 n1 d1, .slice B2 n2 d2, .slice B3 n3 d3, .slice B4 n4 d4] 27 (0, 0)) := by rw [hW, Below.heap_alloc _ _ _ (by simp)]; exact heap_alloc_new w _
  have k2 : W.heap[w.heap.size + 1]? = some (.cells #[.int .i64 0, .int .i64 0, .string ⟨#[]⟩, .slice none 0 0, .slice none 0 0, .slice none 0 0, .slice none 0 0] 27 (0, 0)) := by rw [hW]; exact new_at' _ (by simp)
  have hc := clone_any k v _ W (VS.up hbW.size (Nat.le_refl _) (VS.on hbW hv)) hs
  have HR := Lib.hid hR
  have HBW := Lib.hid (And.intro hbW hzW)
  have hsh := Lib.hid (srt_short hR.2.1)
  have HSL := Lib.hid (show ss.length ≤ 1000000 by have := hR.1; omega)
  have hln := Lib.hid (Nat.le_trans (srt_len ss) HSL.out)
  clear hv hs hR hbW
  go_enter Tryz.func32, Tryz.ntmps32
  go_wp2_with fail
  rw [← hW]
  clear hW
  refine hc.mono ?_
  rintro e w1 ⟨cs1, rfl, hv1, hb1⟩
  clear hc
  obtain ⟨a', i', s', B1', n1', d1', B2', n2', d2', B3', n3', d3', B4', n4', d4', rfl⟩ := hv1.form7
  have hz1 := hb1.size
  have m1 := (hb1.block w.heap.size (by omega)).trans k1
  have m2 := (hb1.block (w.heap.size + 1) (by omega)).trans k2
  obtain ⟨e0, e1, e2, e3, e4, e5, e6⟩ := cells7 m1
  obtain ⟨z0, z1, z2, z3, z4, z5, z6⟩ := frozen7 m1
  obtain ⟨V1, hV1⟩ : ∃ V1, V1 = (((((((w1.setCell ⟨w.heap.size, 0, none⟩ (Value.int .i64 a')).setCell ⟨w.heap.size, 1, none⟩ (Value.int .i64 i')).setCell ⟨w.heap.size, 2, none⟩ (Value.string s')).setCell ⟨w.heap.size, 3, none⟩ (Value.slice B1' n1' d1')).setCell ⟨w.heap.size, 4, none⟩ (Value.slice B2' n2' d2')).setCell ⟨w.heap.size, 5, none⟩ (Value.slice B3' n3' d3')).setCell ⟨w.heap.size, 6, none⟩ (Value.slice B4' n4' d4')) := ⟨_, rfl⟩
  have q1 : V1.heap[w.heap.size]? = some (.cells #[.int .i64 a', .int .i64 i', .string s', .slice B1' n1' d1', .slice B2' n2' d2', .slice B3' n3' d3', .slice B4' n4' d4'] 27 (0, 0)) := by rw [hV1]; exact obj7 m1 (Value.int .i64 a') (Value.int .i64 i') (Value.string s') (Value.slice B1' n1' d1') (Value.slice B2' n2' d2') (Value.slice B3' n3' d3') (Value.slice B4' n4' d4')
  have q2 : V1.heap[w.heap.size + 1]? = some (.cells #[.int .i64 0, .int .i64 0, .string ⟨#[]⟩, .slice none 0 0, .slice none 0 0, .slice none 0 0, .slice none 0 0] 27 (0, 0)) := by
    rw [hV1]
    repeat rw [heap_setCell_other _ _ _ _ (show w.heap.size + 1 ≠ w.heap.size by omega)]
    exact m2
  have hsm1 : ∀ B : Nat → Prop, ¬ B w.heap.size → Same B w1 V1 := fun B h => by rw [hV1]; exact same_setCell (same_setCell (same_setCell (same_setCell (same_setCell (same_setCell (same_setCell (Same.refl _ _) h) h) h) h) h) h) h
  have hbV1 : Below w.heap.size w V1 := by rw [hV1]; exact Below.setCell (Below.setCell (Below.setCell (Below.setCell (Below.setCell (Below.setCell (Below.setCell (HBW.out.1.trans (hb1.mono (by omega))) (p := ⟨w.heap.size, 0, none⟩) (Nat.le_refl _) _) (p := ⟨w.heap.size, 1, none⟩) (Nat.le_refl _) _) (p := ⟨w.heap.size, 2, none⟩) (Nat.le_refl _) _) (p := ⟨w.heap.size, 3, none⟩) (Nat.le_refl _) _) (p := ⟨w.heap.size, 4, none⟩) (Nat.le_refl _) _) (p := ⟨w.heap.size, 5, none⟩) (Nat.le_refl _) _) (p := ⟨w.heap.size, 6, none⟩) (Nat.le_refl _) _
  have hzV1 : V1.heap.size = w1.heap.size := by rw [hV1]; simp
  have hvV : VB k V1 (Btw (w.heap.size + 2) V1.heap.size) v [.int .i64 a', .int .i64 i', .string s', .slice B1' n1' d1', .slice B2' n2' d2', .slice B3' n3' d3', .slice B4' n4' d4'] := VB.sub (fun b hb => ⟨by have := hb.1; omega, by have := hb.2; omega⟩) (Nat.le_refl _) (VB.keep (hsm1 (Btw W.heap.size w1.heap.size) fun h => by have := h.1; omega) hv1)
  have HRV : Hid (NmS V1 V1.heap.size A n ss) := Lib.hid ((HR.out.below hbV1).mono hbV1.size)
  have hva := valuesS_any A n c V1
  have hz12 : w.heap.size + 2 ≤ V1.heap.size := by omega
  have HZV := Lib.hid hzV1
  clear k1 k2 m1 m2 hv1 hb1 hzV1
  go_wp2_with fail
  rw [← hV1]
  clear hV1 e0 e1 e2 e3 e4 e5 e6 z0 z1 z2 z3 z4 z5 z6
  refine hva.mono ?_
  rintro e w2 ⟨rfl, hw2⟩
  clear hva
  have hb2 : Below V1.heap.size V1 w2 := by rw [hw2]; exact (Below.refl _ _).alloc (Nat.le_refl _) _
  have kS : w2.cell? ⟨V1.heap.size, 0, none⟩ = some (.slice A n c) := by rw [hw2]; exact (Lib.cell_of_heap (heap_alloc_new V1 _) 0).trans rfl
  have hz2 : V1.heap.size < w2.heap.size := by rw [hw2]; simp
  have hso := sortedS_any A n c V1.heap.size ss w2 hz2 kS (HRV.out.on hb2) hn
  clear hw2 kS
  go_wp2_with fail
  refine hso.mono ?_
  rintro e w3 ⟨v3, rfl, ho3, hb3⟩
  clear hso
  have hco := compactS_any v3 _ w3 w2.heap.size ho3 hb3.size (by rw [List.length_mergeSort]; have := HSL.out; omega)
  clear ho3
  go_wp2_with fail
  refine hco.mono ?_
  rintro e w4 ⟨v4, rfl, ho4, hb4⟩
  clear hco
  have ho : OwnN w4 w2.heap.size v4 (srt ss) := ho4
  obtain ⟨LA, lc, rfl⟩ := ho.form
  have hb24 : Below V1.heap.size V1 w4 := hb2.trans ((hb3.trans hb4).mono hb2.size)
  have hs24 := hb24.size
  have m5 : w4.heap[w.heap.size]? = some (.cells #[.int .i64 a', .int .i64 i', .string s', .slice B1' n1' d1', .slice B2' n2' d2', .slice B3' n3' d3', .slice B4' n4' d4'] 27 (0, 0)) := (hb24.block _ (by omega)).trans q1
  have m0 : w4.heap[w.heap.size + 1]? = some (.cells #[.int .i64 0, .int .i64 0, .string ⟨#[]⟩, .slice none 0 0, .slice none 0 0, .slice none 0 0, .slice none 0 0] 27 (0, 0)) := (hb24.block _ (by omega)).trans q2
  have HB := Lib.hid (And.intro (row_of_ownN ho hsh.out (by have := hln.out; unfold maxLen; omega)) (And.intro hbV1 (And.intro hb24 (And.intro hvV (And.intro hz2 HZV.out)))))
  generalize hL : (srt ss).length = ln
  rw [hL] at HB
  have HL := Lib.hid hL
  clear ho ho4 hb4 hb3 hb2 hb24 q1 q2 hL hvV hbV1 hsm1 hsh hz2
  obtain ⟨e0, e1, e2, e3, e4, e5, e6⟩ := cells7 m0
  obtain ⟨z0, z1, z2, z3, z4, z5, z6⟩ := frozen7 m0
  obtain ⟨g0, g1, g2, g3, g4, g5, g6⟩ := cells7 m5
  have y6 := Lib.frozen_of_heap m5 6
  have hne : ¬ w.heap.size + 1 = w.heap.size := by omega
  have hne2 : ¬ w.heap.size = w.heap.size + 1 := by omega
  go_wp2
  obtain ⟨V, hV⟩ : ∃ V, V = ((((((((w4.setCell ⟨w.heap.size, 6, none⟩ (Value.slice LA ln lc)).setCell ⟨w.heap.size + 1, 0, none⟩ (Value.int .i64 a')).setCell ⟨w.heap.size + 1, 1, none⟩ (Value.int .i64 i')).setCell ⟨w.heap.size + 1, 2, none⟩ (Value.string s')).setCell ⟨w.heap.size + 1, 3, none⟩ (Value.slice B1' n1' d1')).setCell ⟨w.heap.size + 1, 4, none⟩ (Value.slice B2' n2' d2')).setCell ⟨w.heap.size + 1, 5, none⟩ (Value.slice B3' n3' d3')).setCell ⟨w.heap.size + 1, 6, none⟩ (Value.slice LA ln lc)) := ⟨_, rfl⟩
  rw [← hV]
  have m0' : (w4.setCell ⟨w.heap.size, 6, none⟩ (Value.slice LA ln lc)).heap[w.heap.size + 1]? = some (.cells #[.int .i64 0, .int .i64 0, .string ⟨#[]⟩, .slice none 0 0, .slice none 0 0, .slice none 0 0, .slice none 0 0] 27 (0, 0)) := (heap_setCell_other _ _ _ _ hne).trans m0
  have hob : V.heap[w.heap.size + 1]? = some (.cells #[Value.int .i64 a', Value.int .i64 i', Value.string s', Value.slice B1' n1' d1', Value.slice B2' n2' d2', Value.slice B3' n3' d3', Value.slice LA ln lc] 27 (0, 0)) := by rw [hV]; exact obj7 m0' (Value.int .i64 a') (Value.int .i64 i') (Value.string s') (Value.slice B1' n1' d1') (Value.slice B2' n2' d2') (Value.slice B3' n3' d3') (Value.slice LA ln lc)
  have hBV : Below w.heap.size w V := by rw [hV]; exact Below.setCell (Below.setCell (Below.setCell (Below.setCell (Below.setCell (Below.setCell (Below.setCell ((HB.out.2.1.trans (HB.out.2.2.1.mono HB.out.2.1.size)).setCell (p := ⟨w.heap.size, 6, none⟩) (Nat.le_refl _) _) (p := ⟨w.heap.size + 1, 0, none⟩) (Nat.le_succ _) _) (p := ⟨w.heap.size + 1, 1, none⟩) (Nat.le_succ _) _) (p := ⟨w.heap.size + 1, 2, none⟩) (Nat.le_succ _) _) (p := ⟨w.heap.size + 1, 3, none⟩) (Nat.le_succ _) _) (p := ⟨w.heap.size + 1, 4, none⟩) (Nat.le_succ _) _) (p := ⟨w.heap.size + 1, 5, none⟩) (Nat.le_succ _) _) (p := ⟨w.heap.size + 1, 6, none⟩) (Nat.le_succ _) _
  have hzV : V.heap.size = w4.heap.size := by rw [hV]; simp
  have hsmV : ∀ B : Nat → Prop, ¬ B (w.heap.size + 1) → ¬ B w.heap.size → Same B w4 V := fun B h h' => by
    have hsm0 : Same B w4 (w4.setCell ⟨w.heap.size, 6, none⟩ (Value.slice LA ln lc)) := same_setCell (Same.refl _ _) h'
    rw [hV]; exact same_setCell (same_setCell (same_setCell (same_setCell (same_setCell (same_setCell (same_setCell (hsm0) h) h) h) h) h) h) h
  clear hV e0 z0 e1 z1 e2 z2 e3 z3 e4 z4 e5 z5 e6 z6 g0 g1 g2 g3 g4 g5 g6 y6
  obtain ⟨ps0, ps1, ps2, ps3, ps4, ps5, ps6⟩ := cells7 hob
  refine bodyPost_ret (v := .agg #[Value.int .i64 a', Value.int .i64 i', Value.string s', Value.slice B1' n1' d1', Value.slice B2' n2' d2', Value.slice B3' n3' d3', Value.slice LA ln lc]) (by simp [results, Tryz.results32, go_sem, ps0, ps1, ps2, ps3, ps4, ps5, ps6]) rfl ?_
  obtain ⟨hlR, hbV1, hb24, hvV, hz2, _⟩ := HB.out
  have hL := HL.out
  subst hL
  have hzW := HBW.out.2
  have hv3 := VB.keep (Same.of_below hb24 (B := Btw (w.heap.size + 2) V1.heap.size) fun b hb => hb.2) hvV
  have hv4 : VB k w4 (fun b => Btw w.heap.size w4.heap.size b ∧ b ≠ w.heap.size ∧ b ≠ w.heap.size + 1) v _ := VB.sub (fun b hb => ⟨⟨by have := hb.1; omega, by have := hb.2; omega⟩, by have := hb.1; omega, by have := hb.1; omega⟩) (Nat.le_refl _) hv3
  have hl4 : RowB w4 (fun b => Btw w.heap.size w4.heap.size b ∧ b ≠ w.heap.size ∧ b ≠ w.heap.size + 1) 1 (.slice LA (srt ss).length lc) (srt ss).length _ := RowB.sub hlR (fun b hb => ⟨⟨by have := hb.1; omega, hb.2⟩, by have := hb.1; omega, by have := hb.1; omega⟩) (fun _ _ h => h)
  have hv5 := vb_relabel hv4 hl4
  have hv6 := VB.keep (hsmV _ (fun h => h.2.2 rfl) (fun h => h.2.1 rfl)) hv5
  exact ⟨_, rfl, VB.sub (fun b hb => ⟨hb.1.1, by have := hb.1.2; omega⟩) (Nat.le_refl _) hv6, hBV⟩
end Go.Proofs.YtjfknigiehggkaaGreat
namespace Go.Proofs.YtjfknigiehggkaaGreat
open Go Go.RowKit
end Go.Proofs.YtjfknigiehggkaaGreat
