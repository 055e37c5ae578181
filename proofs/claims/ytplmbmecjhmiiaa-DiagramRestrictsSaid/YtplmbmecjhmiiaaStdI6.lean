/- slices.Sort and slices.Compact at lists of integers of the call's own. -/
import Derived.Test.YtplmbmecjhmiiaaAppR6
import Derived.Test.YtplmbmecjhmiiaaShelf6
namespace Go.Proofs.Ytplmbmecjhmiiaa
open Go Go.RowKit Go.Sort
theorem OwnI.xs {w : World} {base : Nat} {v : Value} {l : List Int} (h : OwnI w base v l) : w.ownsRow base 3 1 v l.length (l.map (Value.int .i64)) := by
  obtain ⟨xs, ho, hx⟩ := h
  have e : xs = l.map (Value.int .i64) := by
    apply List.ext_getElem?
    intro j
    have hlen := ho.1
    by_cases hj : j < l.length
    · have h2 := congrArg (fun z => z[0]?) (hx j l[j] (List.getElem?_eq_getElem hj))
      simp [List.getElem?_take, List.getElem?_drop] at h2
      rw [List.getElem?_map, List.getElem?_eq_getElem hj, h2]
      rfl
    · rw [List.getElem?_eq_none (by omega), List.getElem?_eq_none (by rw [List.length_map]; omega)]
  rw [← e]
  exact ho
theorem OwnI.of_xs {w : World} {base : Nat} {v : Value} {l : List Int} (h : w.ownsRow base 3 1 v l.length (l.map (Value.int .i64))) : OwnI w base v l := by
  refine ⟨_, h, fun j x hj => ?_⟩
  show ((l.map (Value.int .i64)).drop (j * 1)).take 1 = [.int .i64 x]
  have hl := (List.getElem?_eq_some_iff.1 hj).1
  apply List.ext_getElem?
  intro i
  rcases i with _ | i
  · simp [List.getElem?_take, List.getElem?_drop, hj]
  · simp [List.getElem?_take]
theorem OwnI.formG {w : World} {B : Nat} {v : Value} {l : List Int} (h : OwnI w B v l) (h0 : 0 < l.length) : ∃ g c, v = .slice (some ⟨g, 0, none⟩) l.length c ∧ B ≤ g ∧ g < w.heap.size ∧ l.length ≤ c := by
  rcases h.xs.2 with ⟨_, h'⟩ | ⟨g, cap, cur, h', hb, hg, hnc, _⟩
  · omega
  · exact ⟨g, cap, h', hb, (Array.getElem?_eq_some_iff.1 hg).1, hnc⟩
theorem OwnI.holds {w : World} {B g c : Nat} {l : List Int} (h : OwnI w B (.slice (some ⟨g, 0, none⟩) l.length c) l) : Holds (Value.int .i64) w g 0 l.toArray := by
  intro j hj
  have hj' : j < l.length := by simpa using hj
  rcases h.xs.2 with ⟨h', _⟩ | ⟨g', cap', cur, h', hb, hg, hnc, hcm, hcs, htake⟩
  · simp at h'
  · simp only [Value.slice.injEq, Option.some.injEq, Addr.mk.injEq, and_true, true_and] at h'
    obtain ⟨rfl, rfl⟩ := h'
    refine ⟨?_, Lib.frozen_of_heap hg _⟩
    rw [Lib.cell_of_heap hg, Nat.zero_add]
    have h1 := congrArg (fun z => z[j]?) htake
    simp only [Nat.mul_one] at h1
    rw [List.getElem?_take_of_lt hj', Array.getElem?_toList, List.getElem?_map, List.getElem?_eq_getElem hj'] at h1
    rw [h1]
    simp [hj']
theorem own_of_putI {w : World} {B g n cap q m : Nat} {ss : List Int} {d : Array Int} {os : Array Obj} (h : OwnI w B (.slice (some ⟨g, 0, none⟩) n cap) ss) (hn : ss.length = n) (hd : d.size = n) (hm : m ≤ n) :
    OwnI (grow (putRow (Value.int .i64) (Sort.ahead w q) g 0 d) os) B (.slice (some ⟨g, 0, none⟩) m cap) (d.toList.take m) ∧ w.grownBy (grow (putRow (Value.int .i64) (Sort.ahead w q) g 0 d) os) (some g) := by
  subst hn
  rcases h.xs.2 with ⟨h', _⟩ | ⟨g', cap', cur, h', hb, hg, hnc, hcm, hcs, htake⟩
  · simp at h'
  · simp only [Value.slice.injEq, Option.some.injEq, Addr.mk.injEq, and_true, true_and] at h'
    obtain ⟨rfl, rfl⟩ := h'
    have hlt : g < w.heap.size := (Array.getElem?_eq_some_iff.1 hg).1
    have hh : (grow (putRow (Value.int .i64) (Sort.ahead w q) g 0 d) os).heap[g]? = some (.cells (putCells (Value.int .i64) 0 d cur) 3 (0, 0)) := by
      rw [heap_grow_old _ _ (by simpa [putRow, mapBlock, Sort.ahead] using hlt)]
      simp [putRow, mapBlock, Sort.ahead, Array.getElem?_modify, hg, onCells]
    have hl : (d.toList.take m).length = m := by rw [List.length_take, Array.length_toList]; omega
    refine ⟨OwnI.of_xs ⟨by simp, .inr ⟨g, cap, _, by rw [hl], hb, hh, by rw [hl]; omega, hcm, by simp [putCells, hcs], ?_⟩⟩, rfl, rfl, rfl, ?_, fun k hk hne => ?_⟩
    · rw [hl, Nat.mul_one]
      apply List.ext_getElem?
      intro j
      by_cases hj : j < m
      · rw [List.getElem?_take_of_lt (by omega), Array.getElem?_toList, List.getElem?_map, List.getElem?_take_of_lt hj, Array.getElem?_toList]
        have hc : j < cur.size := by omega
        have hdj : j < d.size := by omega
        simp [putCells, hc, hdj]
      · rw [List.getElem?_take_eq_none (by omega), List.getElem?_eq_none (by rw [List.length_map, hl]; omega)]
    · simp [putRow, mapBlock, Sort.ahead, grow]
    · rw [heap_grow_old _ _ (by simpa [putRow, mapBlock, Sort.ahead] using hk)]
      have : g ≠ k := fun e => hne (by rw [e])
      simp [putRow, mapBlock, Sort.ahead, Array.getElem?_modify, this]
theorem sortI_any (v : Value) (ss : List Int) (w : World) (B : Nat) (hO : OwnI w B v ss) (hB : B ≤ w.heap.size) (hn : ss.length ≤ 1000000000) :
    Calls Try.prog 41 #[v] w fun e w' => e = .returned (.tuple #[]) ∧ OwnI w' B v (ss.mergeSort fun x y => decide (x ≤ y)) ∧ Below B w w' := by
  rcases Nat.eq_zero_or_pos ss.length with h0 | h0
  · have hr : ss = [] := List.eq_nil_of_length_eq_zero h0
    subst hr
    obtain ⟨A, c, rfl⟩ := hO.form
    exact (Try.slices_Sort_int_none A c w).mono fun e w' ⟨he, hw⟩ => ⟨he, by rw [hw, List.mergeSort_nil]; exact hO, by rw [hw]; exact Below.refl _ _⟩
  · obtain ⟨g, c, rfl, hBg, hgs, hlc⟩ := hO.formG h0
    refine (Try.slices_Sort_int g 0 c ss w hO.holds hgs (by omega)).mono fun e w' ⟨he, q, os, hw⟩ => ?_
    have hl : (ss.mergeSort fun x y => decide (x ≤ y)).length = ss.length := List.length_mergeSort _
    have := own_of_putI (q := q) (os := os) (m := ss.length) (d := (ss.mergeSort fun x y => decide (x ≤ y)).toArray) hO rfl (by simp) (Nat.le_refl _)
    rw [← hw] at this
    refine ⟨he, ?_, (Below.refl _ _).grown this.2 hB (fun k hk => by injection hk with hk; omega)⟩
    have h1 := this.1
    rw [List.take_of_length_le (by simp)] at h1
    simpa using h1
theorem compactI_any (v : Value) (ss : List Int) (w : World) (B : Nat) (hO : OwnI w B v ss) (hB : B ≤ w.heap.size) (hn : ss.length ≤ 1000000000) :
    Calls Try.prog 42 #[v] w fun e w' => ∃ v', e = .returned v' ∧ OwnI w' B v' (Lib.compact ss) ∧ Below B w w' := by
  rcases Nat.eq_zero_or_pos ss.length with h0 | h0
  · have hr : ss = [] := List.eq_nil_of_length_eq_zero h0
    subst hr
    obtain ⟨A, c, rfl⟩ := hO.form
    exact (Try.slices_Compact_int_empty A c w).mono fun e w' ⟨he, hw⟩ => ⟨_, he, by rw [hw]; exact hO, by rw [hw]; exact Below.refl _ _⟩
  · obtain ⟨g, c, rfl, hBg, hgs, hlc⟩ := hO.formG h0
    have hcl : (Lib.compact ss).length ≤ ss.length := by
      unfold Lib.compact Lib.compactUpTo
      rw [List.length_map]
      simpa using List.length_filter_le (Lib.keeps ss.toArray) (List.range ss.length)
    refine (Try.slices_Compact_int g 0 c ss w hO.holds (by omega) hlc).mono fun e w' ⟨he, q, hw⟩ => ?_
    have := own_of_putI (q := q) (os := #[]) (m := (Lib.compact ss).length) (d := (Lib.compact ss ++ List.replicate (ss.length - (Lib.compact ss).length) 0).toArray) hO rfl (by simp; omega) hcl
    rw [grow_empty, ← hw] at this
    refine ⟨_, he, ?_, (Below.refl _ _).grown this.2 hB (fun k hk => by injection hk with hk; omega)⟩
    have h1 := this.1
    rw [List.toList_toArray, List.take_left] at h1
    exact h1
theorem compactUpTo_ascI (d : Array Int) (hs : ∀ i j, i < j → j < d.size → d[i]! ≤ d[j]!) : ∀ m, m ≤ d.size → (Lib.compactUpTo d m).Pairwise (· < ·) ∧ ∀ x, x ∈ Lib.compactUpTo d m ↔ ∃ j, j < m ∧ d[j]! = x
  | 0, _ => ⟨by unfold Lib.compactUpTo; exact List.Pairwise.nil, fun x => by simp [Lib.compactUpTo]⟩
  | m + 1, hm => by
    obtain ⟨ih1, ih2⟩ := compactUpTo_ascI d hs m (by omega)
    rw [Lib.compactUpTo_succ]
    by_cases hk : Lib.keeps d m = true
    · rw [if_pos hk]
      refine ⟨List.pairwise_append.2 ⟨ih1, List.pairwise_singleton _ _, fun a ha b hb => ?_⟩, fun x => ?_⟩
      · obtain ⟨j, hj, rfl⟩ := (ih2 a).1 ha
        obtain rfl : b = d[m]! := by simpa using hb
        have hne : d[m]! ≠ d[m - 1]! := by
          have := hk
          unfold Lib.keeps at this
          rcases of_decide_eq_true this with h | h
          · omega
          · exact h
        have h1 := hs (m - 1) m (by omega) (by omega)
        by_cases e : j = m - 1
        · rw [e]; omega
        · have := hs j (m - 1) (by omega) (by omega)
          omega
      · rw [List.mem_append, ih2, List.mem_singleton]
        constructor
        · rintro (⟨j, hj, e⟩ | rfl)
          · exact ⟨j, by omega, e⟩
          · exact ⟨m, by omega, rfl⟩
        · rintro ⟨j, hj, e⟩
          by_cases h : j = m
          · subst h; exact .inr e.symm
          · exact .inl ⟨j, by omega, e⟩
    · rw [if_neg hk, List.append_nil]
      refine ⟨ih1, fun x => (ih2 x).trans ⟨fun ⟨j, hj, e⟩ => ⟨j, by omega, e⟩, fun ⟨j, hj, e⟩ => ?_⟩⟩
      by_cases h : j = m
      · subst h
        have hk' : j ≠ 0 ∧ d[j]! = d[j - 1]! := by
          have : ¬ (j = 0 ∨ d[j]! ≠ d[j - 1]!) := fun h => hk (by unfold Lib.keeps; exact decide_eq_true h)
          exact ⟨fun e => this (.inl e), Decidable.byContradiction fun e => this (.inr e)⟩
        exact ⟨j - 1, by omega, by rw [← hk'.2]; exact e⟩
      · exact ⟨j, by omega, e⟩
/-- sorted and compacted: ascending, with the same members -/
theorem srtI_ok (zs : List Int) : (Lib.compact (zs.mergeSort fun x y => decide (x ≤ y))).Pairwise (· < ·) ∧ (∀ x, x ∈ Lib.compact (zs.mergeSort fun x y => decide (x ≤ y)) ↔ x ∈ zs) ∧ (Lib.compact (zs.mergeSort fun x y => decide (x ≤ y))).length ≤ zs.length := by
  have hp : (zs.mergeSort fun x y => decide (x ≤ y)).Pairwise fun a b => a ≤ b := by
    have h := List.pairwise_mergeSort (le := fun x y : Int => decide (x ≤ y)) (fun a b c h1 h2 => by simp only [decide_eq_true_eq] at *; omega) (fun a b => by simp only [Bool.or_eq_true, decide_eq_true_eq]; omega) zs
    exact h.imp fun h => by simpa using h
  have hm : ∀ x, x ∈ (zs.mergeSort fun x y => decide (x ≤ y)) ↔ x ∈ zs := fun x => (List.mergeSort_perm zs _).mem_iff
  have hlen : (zs.mergeSort fun x y => decide (x ≤ y)).length = zs.length := List.length_mergeSort _
  generalize (zs.mergeSort fun x y => decide (x ≤ y)) = ys at *
  have h := compactUpTo_ascI ys.toArray (fun i j hij hj => by
    have hj' : j < ys.length := by simpa using hj
    have := List.pairwise_iff_getElem.1 hp i j (by omega) hj' hij
    rw [getElem!_pos ys.toArray j (by simpa using hj'), getElem!_pos ys.toArray i (by simp; omega)]
    simpa using this) ys.length (by simp)
  refine ⟨h.1, fun x => ((h.2 x).trans ?_).trans (hm x), ?_⟩
  · constructor
    · rintro ⟨j, hj, rfl⟩
      rw [getElem!_pos ys.toArray j (by simpa using hj)]
      simp
    · intro hx
      obtain ⟨j, hj, e⟩ := List.getElem_of_mem hx
      exact ⟨j, hj, by rw [getElem!_pos ys.toArray j (by simpa using hj)]; simpa using e⟩
  · rw [← hlen]
    unfold Lib.compact Lib.compactUpTo
    rw [List.length_map]
    have := List.length_filter_le (Lib.keeps ys.toArray) (List.range ys.length)
    simpa using this
end Go.Proofs.Ytplmbmecjhmiiaa
