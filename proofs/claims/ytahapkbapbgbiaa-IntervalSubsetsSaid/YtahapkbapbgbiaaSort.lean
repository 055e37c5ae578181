/- What slices.SortFunc returns at a slice of ranges of the call's own, compared by their lower ends: the same ranges, ascending. Condition: at most 10^9 ranges. -/
import Derived.Test.YtahapkbapbgbiaaDelWalk
import Derived.Shelf.SlSortCmp.NoneTotal
namespace Go.Proofs.Ytahapkbapbgbiaa
open Go.RowKit Go.Sort
theorem flatK_toList (d : Array Rg) : (flatK cellsR 2 d).toList = flatR d.toList := by
  apply List.ext_getElem?
  intro j
  by_cases hj : j < d.size * 2
  · have hx : d.toList[j / 2]? = some d[j / 2]! := by
      rw [getElem!_pos d (j / 2) (by omega), Array.getElem?_toList, Array.getElem?_eq_getElem (by omega)]
    have h1 := flatR_lo _ _ _ hx
    have h2 := flatR_hi _ _ _ hx
    have e : (flatK cellsR 2 d).toList[j]? = some (cellsR d[j / 2]!)[j % 2]! := by
      rw [Array.getElem?_toList, Array.getElem?_eq_getElem (by simpa using hj)]
      congr 1
      have := get_flatK cellsR 2 d j hj
      rwa [getElem!_pos _ j (by simpa using hj)] at this
    rw [e]
    rcases Nat.mod_two_eq_zero_or_one j with q | q
    · rw [show j / 2 * 2 = j by omega] at h1
      rw [h1, q]; rfl
    · rw [show j / 2 * 2 + 1 = j by omega] at h2
      rw [h2, q]; rfl
  · rw [List.getElem?_eq_none (by simp; omega), List.getElem?_eq_none (by rw [flatR_length]; simp; omega)]
theorem flatK_eq (d : Array Rg) : flatK cellsR 2 d = (flatR d.toList).toArray := by rw [← flatK_toList]
theorem holdsK_of_own {w : World} {B g n cap : Nat} {rs : List Rg} (h : OwnR w B (.slice (some ⟨g, 0, none⟩) n cap) rs) (hn : rs.length = n) : HoldsK cellsR 2 w g 0 rs.toArray := by
  subst hn
  unfold HoldsK
  rw [flatK_eq]
  intro j hj
  have hj' : j < rs.length * 2 := by
    rw [List.size_toArray, flatR_length] at hj; exact hj
  refine ⟨?_, by rw [Nat.zero_add]; exact World.ownsRow.frozenAt h j⟩
  rw [Nat.zero_add, World.ownsRow.cellAt h j hj']
  have hl : j < (flatR rs).length := by rw [flatR_length]; exact hj'
  rw [List.getElem?_eq_getElem hl]
  simp [hl]
theorem own_of_sort {w : World} {B g n m cap : Nat} {rs : List Rg} {d : Array Rg} {os : Array Obj} (h : OwnR w B (.slice (some ⟨g, 0, none⟩) n cap) rs) (hn : rs.length = n) (hd : d.size = n) :
    OwnR (sortWorldK cellsR 2 w g 0 m d os) B (.slice (some ⟨g, 0, none⟩) n cap) d.toList ∧ w.grownBy (sortWorldK cellsR 2 w g 0 m d os) (some g) := by
  subst hn
  rcases h.2 with ⟨h', _⟩ | ⟨g', cap', cur, h', hb, hg, hnc, hcm, hcs, htake⟩
  · simp at h'
  · simp only [Value.slice.injEq, Option.some.injEq, Addr.mk.injEq, and_true, true_and] at h'
    obtain ⟨rfl, rfl⟩ := h'
    have hlt : g < w.heap.size := (Array.getElem?_eq_some_iff.1 hg).1
    have hh : (sortWorldK cellsR 2 w g 0 m d os).heap[g]? = some (.cells (putCells id 0 (flatK cellsR 2 d) cur) 35 (0, 0)) := by
      unfold sortWorldK putRowK
      rw [heap_grow_old _ _ (by simpa [putRow, mapBlock, Sort.ahead] using hlt)]
      simp [putRow, mapBlock, Sort.ahead, Array.getElem?_modify, hg, onCells]
    refine ⟨⟨flatR_length _, .inr ⟨g, cap, _, by simp [hd], hb, hh, by simp [hd]; exact hnc, hcm, by simp [putCells, hcs], ?_⟩⟩, rfl, rfl, rfl, ?_, fun k hk hne => ?_⟩
    · rw [flatK_eq]
      have hl : (flatR d.toList).length = d.toList.length * 2 := flatR_length _
      apply List.ext_getElem?
      intro j
      by_cases hj : j < d.toList.length * 2
      · rw [List.getElem?_take_of_lt hj, Array.getElem?_toList]
        have hc : j < cur.size := by simp at hj; omega
        simp [putCells, hc, show j < (flatR d.toList).length by omega]
      · rw [List.getElem?_take_eq_none (by omega), List.getElem?_eq_none (by omega)]
    · simp [sortWorldK, putRowK, putRow, mapBlock, Sort.ahead, grow]
    · unfold sortWorldK putRowK
      rw [heap_grow_old _ _ (by simpa [putRow, mapBlock, Sort.ahead] using hk)]
      have : g ≠ k := fun e => hne (by rw [e])
      simp [putRow, mapBlock, Sort.ahead, Array.getElem?_modify, this]
def cfR (x y : Rg) : Int := cmpI x.1 y.1
theorem ltLo (x y : Rg) : ltOf cfR x y = decide (x.1 < y.1) := by
  unfold ltOf cfR cmpI
  by_cases h1 : x.1 < y.1
  · simp [h1]
  · by_cases h2 : y.1 < x.1 <;> simp [h1, h2]
theorem swoLo : SWO (ltOf cfR) where
  irrefl x := by rw [ltLo]; simp
  trans x y z h1 h2 := by rw [ltLo] at *; simp at *; omega
  ntrans x y z h1 h2 := by rw [ltLo] at *; simp at *; omega
set_option maxHeartbeats 1000000 in
theorem byLo_any (x y : Rg) (W : World) : Calls Try.prog 29 #[.agg #[.int .i64 x.1, .int .i64 x.2], .agg #[.int .i64 y.1, .int .i64 y.2]] W fun e w' => e = .returned (.int .i64 (cfR x y)) ∧ ∃ q os', w' = grow (W.drewN q) os' := by
  have hcon := fun W' => cmp64_any x.1 y.1 W'
  unfold cfR
  generalize cmpI x.1 y.1 = r at hcon ⊢
  go_enter Try.func29, Try.ntmps29
  go_wp2_with (go_at_call 30; refine (hcon _).mono ?_; rintro e w' ⟨rfl, rfl⟩)
  go_ret
  exact ⟨rfl, 0, _, by rw [alloc_eq_grow, alloc_eq_grow, grow_grow]; rfl⟩
def Asc (l : List Rg) : Prop := ∀ (i j : Nat) (x y : Rg), i < j → l[i]? = some x → l[j]? = some y → x.1 ≤ y.1
set_option maxHeartbeats 1000000 in
theorem sort_any (v : Value) (rs : List Rg) (w : World) (B : Nat) (hO : OwnR w B v rs) (hB : B ≤ w.heap.size) (hn : rs.length ≤ 1000000000) :
    Calls Try.prog 28 #[v, .func (.func 29) #[] #[]] w fun e w' => e = .returned (.tuple #[]) ∧ ∃ ts, ts.Perm rs ∧ Asc ts ∧ OwnR w' B v ts ∧ Below B w w' := by
  rcases Nat.eq_zero_or_pos rs.length with h0 | h0
  · have hr : rs = [] := List.eq_nil_of_length_eq_zero h0
    subst hr
    obtain ⟨A, c, rfl⟩ := hO.form
    have := AnyF.slices_SortFunc_none Try.sortR A c (.func (.func 29) #[] #[]) w
    change Calls Try.prog 28 _ _ _ at this
    exact this.mono fun e w' ⟨he, hw⟩ => ⟨he, [], List.Perm.refl _, by intro i j x y _ h; simp at h, by rw [hw]; exact hO, by rw [hw]; exact Below.refl _ _⟩
  · obtain ⟨g, c, rfl, hBg, hgs, hlc⟩ := hO.formG h0
    have eg : ∀ args w, (callFunc 29 args).run Try.prog w = .ok (.enter 29 args) w := enters_of Try.func29 (by kernel_rfl) rfl
    have hcon := AnyQ.slices_SortFunc Try.sortR 2 Try.isAgg35 Try.sizeOf35 cellsR (fun _ => rfl) (fun x v hv => by simp [cellsR] at hv; rcases hv with rfl | rfl <;> rfl) cfR swoLo 29 #[] g 0 c rs.toArray w eg (fun _ _ _ _ x y => byLo_any x y _) (holdsK_of_own hO rfl) hgs (by simp; omega)
    change Calls Try.prog 28 _ _ _ at hcon
    rw [List.size_toArray] at hcon
    refine hcon.mono fun e w' ⟨he, d', m, os, hp, hs, hw⟩ => ⟨he, d'.toList, ?_, ?_, ?_, ?_⟩
    · have h3 := hp.2.2
      have e1 := hp.1
      simp only [List.size_toArray] at e1
      rw [← e1, Array.extract_size] at h3
      have : (rs.toArray.extract 0 d'.size).toList = rs := by
        rw [e1]; simp
      rwa [this] at h3
    · intro i j x y hij hx hy
      have e1 := hp.1
      simp only [List.size_toArray] at e1
      have hj := (List.getElem?_eq_some_iff.1 hy).1
      have hi := (List.getElem?_eq_some_iff.1 hx).1
      simp only [Array.length_toList] at hi hj
      have h4 := hs i j (Nat.zero_le _) hij (by omega)
      rw [ltLo] at h4
      rw [Array.getElem?_toList] at hx hy
      rw [getElem!_pos d' i hi, getElem!_pos d' j hj] at h4
      rw [Array.getElem?_eq_getElem hi] at hx
      rw [Array.getElem?_eq_getElem hj] at hy
      injection hx with hx
      injection hy with hy
      rw [hx, hy] at h4
      simpa using h4
    · have e1 := hp.1
      simp only [List.size_toArray] at e1
      rw [hw]
      exact (own_of_sort hO rfl e1).1
    · have e1 := hp.1
      simp only [List.size_toArray] at e1
      rw [hw]
      exact (Below.refl _ _).grown (own_of_sort hO rfl e1).2 hB (fun k hk => by injection hk with hk; omega)
end Go.Proofs.Ytahapkbapbgbiaa
