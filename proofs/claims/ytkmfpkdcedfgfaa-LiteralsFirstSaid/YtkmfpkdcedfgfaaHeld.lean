/- Results of calls in slots, boxes of the call's own: what stays of them while other operations of a region come up. -/
import Derived.Test.YtkmfpkdcedfgfaaMake
import Derived.Test.YtkmfpkdcedfgfaaPar
import Derived.Deep.Cut
namespace Go.Proofs.Ytkmfpkdcedfgfaa
open Go.RowKit Go.Sort
theorem Below.setCell2 {B : Nat} {a w : World} (h : Below B a w) {r : Nat} (hr : B ≤ r) (o o' : Nat) (x y : Value) : Below B a ((w.setCell ⟨r, o, none⟩ x).setCell ⟨r, o', none⟩ y) := (h.setCell (p := ⟨r, o, none⟩) hr x).setCell (p := ⟨r, o', none⟩) hr y
/-- a store into a block of another type -/
theorem OwnN.store {w : World} {B r : Nat} {v : Value} {ss : List Strg} {t : TypeId} {cs : Array Value} {fz : Nat × Nat} (h : OwnN w B v ss) (hr : w.heap[r]? = some (.cells cs t fz)) (ht : t ≠ 9) (o : Nat) (x : Value) : OwnN (w.setCell ⟨r, o, none⟩ x) B v ss := by
  refine ⟨h.1, ?_⟩
  rcases h.2 with hn | ⟨g, cap, cur, rfl, hB, hg, rest⟩
  · exact .inl hn
  · have hne : g ≠ r := by
      rintro rfl
      rw [hr] at hg
      injection hg with hg
      injection hg with _ e _
      exact ht e
    exact .inr ⟨g, cap, cur, rfl, hB, by rw [Below.heap_setCell _ _ _ _ (by exact hne)]; exact hg, rest⟩
theorem stored_block {w : World} {r : Nat} {t : TypeId} {x y : Value} (h : w.heap[r]? = some (.cells #[x, y] t (0, 0))) (a b : Value) :
    ((w.setCell ⟨r, 0, none⟩ a).setCell ⟨r, 1, none⟩ b).heap[r]? = some (.cells #[a, b] t (0, 0)) := by
  have h1 := Lib.heap_setCell_same (i := 0) h a
  have h2 := Lib.heap_setCell_same (i := 1) h1 b
  simpa using h2
/-- a slot holds the valid set with the members p -/
def SetF (H : Nat) (co : Bool) (p : Strg → Bool) (k : Nat) (v : Value) (w : World) : Prop :=
  ∃ m A c, v = .agg #[.bool co, .slice A m.length c] ∧ OwnN w H (.slice A m.length c) m ∧ Short m ∧ IsSet co m p ∧ m.length ≤ k
/-- a slot holds the address of a box of the call's own -/
def BoxF (H : Nat) (t : TypeId) (v : Value) (w : World) : Prop := ∃ r x y, v = .pointer (some ⟨r, 0, none⟩) ∧ H ≤ r ∧ w.heap[r]? = some (.cells #[x, y] t (0, 0))
/-- .. and the box holds u -/
def ConF (H : Nat) (t : TypeId) (v u : Value) (w : World) : Prop := ∃ r x y, v = .pointer (some ⟨r, 0, none⟩) ∧ H ≤ r ∧ w.heap[r]? = some (.cells #[x, y] t (0, 0)) ∧ u = .agg #[x, y]
theorem heap_lt {w : World} {r : Nat} {o : Obj} (h : w.heap[r]? = some o) : r < w.heap.size := (Array.getElem?_eq_some_iff.1 h).1
theorem SetF.old {H k : Nat} {co : Bool} {p : Strg → Bool} {v : Value} {w w' : World} (h : SetF H co p k v w) (hb : Below w.heap.size w w') : SetF H co p k v w' := by
  obtain ⟨m, A, c, h1, h2, h3⟩ := h
  exact ⟨m, A, c, h1, h2.old hb, h3⟩
theorem SetF.store {H k r : Nat} {co : Bool} {p : Strg → Bool} {v : Value} {w : World} {t : TypeId} {x y : Value} (h : SetF H co p k v w) (hr : w.heap[r]? = some (.cells #[x, y] t (0, 0))) (ht : t ≠ 9) (a b : Value) : SetF H co p k v ((w.setCell ⟨r, 0, none⟩ a).setCell ⟨r, 1, none⟩ b) := by
  obtain ⟨m, A, c, h1, h2, h3⟩ := h
  refine ⟨m, A, c, h1, (h2.store hr ht 0 a).store (t := t) (cs := #[a, y]) (fz := (0, 0)) ?_ ht 1 b, h3⟩
  simpa using Lib.heap_setCell_same (i := 0) hr a
theorem BoxF.old {H : Nat} {t : TypeId} {v : Value} {w w' : World} (h : BoxF H t v w) (hb : Below w.heap.size w w') : BoxF H t v w' := by
  obtain ⟨r, x, y, h1, h2, h3⟩ := h
  exact ⟨r, x, y, h1, h2, by rw [hb.block r (heap_lt h3)]; exact h3⟩
theorem BoxF.store {H r : Nat} {t : TypeId} {v : Value} {w : World} {x y : Value} (h : BoxF H t v w) (hr : w.heap[r]? = some (.cells #[x, y] t (0, 0))) (a b : Value) : BoxF H t v ((w.setCell ⟨r, 0, none⟩ a).setCell ⟨r, 1, none⟩ b) := by
  obtain ⟨r', x', y', h1, h2, h3⟩ := h
  by_cases e : r' = r
  · subst e
    exact ⟨r', a, b, h1, h2, stored_block hr a b⟩
  · refine ⟨r', x', y', h1, h2, ?_⟩
    rw [Below.heap_setCell _ _ _ _ (by exact e), Below.heap_setCell _ _ _ _ (by exact e)]
    exact h3
theorem BoxF.new {H : Nat} (t : TypeId) {w : World} (hH : H ≤ w.heap.size) (x y : Value) : BoxF H t (.pointer (some ⟨w.heap.size, 0, none⟩)) (w.alloc (.cells #[x, y] t (0, 0))) :=
  ⟨_, x, y, rfl, hH, heap_alloc_new w _⟩
theorem BoxF.ne {H : Nat} {t : TypeId} {v : Value} {w : World} (h : BoxF H t v w) : v ≠ .pointer (some ⟨w.heap.size, 0, none⟩) := by
  obtain ⟨r, x, y, rfl, h2, h3⟩ := h
  intro e
  injection e with e
  injection e with e
  injection e with e
  have := heap_lt h3
  omega
theorem ConF.old {H : Nat} {t : TypeId} {v u : Value} {w w' : World} (h : ConF H t v u w) (hb : Below w.heap.size w w') : ConF H t v u w' := by
  obtain ⟨r, x, y, h1, h2, h3, h4⟩ := h
  exact ⟨r, x, y, h1, h2, by rw [hb.block r (heap_lt h3)]; exact h3, h4⟩
theorem ConF.new {H r : Nat} {t : TypeId} {w : World} {x y : Value} (hH : H ≤ r) (hr : w.heap[r]? = some (.cells #[x, y] t (0, 0))) (a b : Value) : ConF H t (.pointer (some ⟨r, 0, none⟩)) (.agg #[a, b]) ((w.setCell ⟨r, 0, none⟩ a).setCell ⟨r, 1, none⟩ b) :=
  ⟨r, a, b, rfl, hH, stored_block hr a b, rfl⟩
theorem ConF.store {H r : Nat} {t : TypeId} {v u : Value} {w : World} (h : ConF H t v u w) (hne : v ≠ .pointer (some ⟨r, 0, none⟩)) (a b : Value) : ConF H t v u ((w.setCell ⟨r, 0, none⟩ a).setCell ⟨r, 1, none⟩ b) := by
  obtain ⟨r', x', y', rfl, h2, h3, h4⟩ := h
  have e : r' ≠ r := fun e => hne (by rw [e])
  refine ⟨r', x', y', rfl, h2, ?_, h4⟩
  rw [Below.heap_setCell _ _ _ _ (by exact e), Below.heap_setCell _ _ _ _ (by exact e)]
  exact h3
theorem RetN.setF {co : Bool} {p : Strg → Bool} {k H : Nat} {w w' : World} {e : Ending} (h : RetN co p k w e w') (hH : H ≤ w.heap.size) : ∃ v, e = .returned v ∧ SetF H co p k v w' ∧ Below w.heap.size w w' := by
  obtain ⟨m, A, c, h1, h2, h6, h3, h4, h5⟩ := h
  exact ⟨_, h1, ⟨m, A, c, rfl, h2.mono hH, h6, h3, h4⟩, h5⟩
/-- two sets lie in the boxes at h and h + 1 -/
abbrev Held2 (h : Nat) (a1 a2 b1 b2 : Value) (H : Nat) (W0 wq : World) : Prop :=
  wq.cell? ⟨h, 0, none⟩ = some a1 ∧ wq.cell? ⟨h, 1, none⟩ = some a2 ∧ wq.cell? ⟨h + 1, 0, none⟩ = some b1 ∧ wq.cell? ⟨h + 1, 1, none⟩ = some b2 ∧ H ≤ wq.heap.size ∧ Below H W0 wq
theorem held2_of {h H : Nat} {a1 a2 b1 b2 : Value} {W0 : World} (hH : h + 1 < H) (hz : H ≤ W0.heap.size) (c1 : W0.cell? ⟨h, 0, none⟩ = some a1) (c2 : W0.cell? ⟨h, 1, none⟩ = some a2) (c3 : W0.cell? ⟨h + 1, 0, none⟩ = some b1) (c4 : W0.cell? ⟨h + 1, 1, none⟩ = some b2) :
    ∀ wq, Below H W0 wq → Held2 h a1 a2 b1 b2 H W0 wq := fun wq hb =>
  ⟨(hb.cell (p := ⟨h, 0, none⟩) (by show h < H; omega)).trans c1, (hb.cell (p := ⟨h, 1, none⟩) (by show h < H; omega)).trans c2, (hb.cell (p := ⟨h + 1, 0, none⟩) hH).trans c3, (hb.cell (p := ⟨h + 1, 1, none⟩) hH).trans c4, Nat.le_trans hz hb.size, hb⟩
theorem step_below {H : Nat} {W0 w w' : World} (h : Below H W0 w) (hz : H ≤ W0.heap.size) (hb : Below w.heap.size w w') : Below H W0 w' := h.trans (hb.mono (Nat.le_trans hz h.size))
theorem boxes2 (w : World) (o1 o2 : Obj) : ((w.alloc o1).alloc o2).heap[w.heap.size]? = some o1 ∧ ((w.alloc o1).alloc o2).heap[w.heap.size + 1]? = some o2 ∧ ((w.alloc o1).alloc o2).heap.size = w.heap.size + 2 ∧ Below w.heap.size w ((w.alloc o1).alloc o2) := by
  refine ⟨?_, new_at _ (by simp), by simp, ((Below.refl _ _).alloc (Nat.le_refl _) _).alloc (by simp) _⟩
  rw [Below.heap_alloc _ _ _ (by simp)]
  exact heap_alloc_new w o1
theorem boxes3 (w : World) (o1 o2 o3 : Obj) : (((w.alloc o1).alloc o2).alloc o3).heap[w.heap.size]? = some o1 ∧ (((w.alloc o1).alloc o2).alloc o3).heap[w.heap.size + 1]? = some o2 ∧ (((w.alloc o1).alloc o2).alloc o3).heap[w.heap.size + 1 + 1]? = some o3 ∧ (((w.alloc o1).alloc o2).alloc o3).heap.size = w.heap.size + 3 ∧ Below w.heap.size w (((w.alloc o1).alloc o2).alloc o3) := by
  obtain ⟨h1, h2, h3, h4⟩ := boxes2 w o1 o2
  refine ⟨?_, ?_, new_at _ h3, by simp, h4.alloc (by omega) _⟩
  · rw [Below.heap_alloc _ _ _ (by omega)]; exact h1
  · rw [Below.heap_alloc _ _ _ (by omega)]; exact h2
theorem cell0 {w : World} {r : Nat} {a b : Value} {t : TypeId} {fz : Nat × Nat} (h : w.heap[r]? = some (.cells #[a, b] t fz)) : w.cell? ⟨r, 0, none⟩ = some a := (Lib.cell_of_heap h 0).trans rfl
theorem cell1 {w : World} {r : Nat} {a b : Value} {t : TypeId} {fz : Nat × Nat} (h : w.heap[r]? = some (.cells #[a, b] t fz)) : w.cell? ⟨r, 1, none⟩ = some b := (Lib.cell_of_heap h 1).trans rfl
end Go.Proofs.Ytkmfpkdcedfgfaa
