/- Variables that hold diagrams of functions. -/
import Derived.Test.YtplmbmecjhmiiaaDoorAnd6
import Derived.Test.YtplmbmecjhmiiaaDoorEqD6
namespace Go.Proofs.YtplmbmecjhmiiaaDoor
open Go Go.RowKit
theorem cell2_set {w : World} {b i g k : Nat} {x y v : Value} {T : TypeId} (h : w.heap[b]? = some (.cells #[x, y] T (0, 0))) (hne : g ≠ b) : (w.setCell ⟨b, i, none⟩ v).cell? ⟨g, k, none⟩ = w.cell? ⟨g, k, none⟩ :=
  World.cell?_of_block (a := ⟨g, k, none⟩) (heap_setCell_other _ _ _ _ hne)
/-- a store into a variable of two cells meets no row of nodes -/
theorem NdR.setbox {w : World} {B : Nat → Prop} {A : Option Addr} {n c b i : Nat} {is : List (Int × Int × Int)} {x y v : Value} {T : TypeId} (h : NdR w B A n c is) (hb : w.heap[b]? = some (.cells #[x, y] T (0, 0))) : NdR (w.setCell ⟨b, i, none⟩ v) B A n c is := by
  obtain ⟨h0, A', cap, h1, h2, h3⟩ := h
  refine ⟨h0, A', cap, h1, h2, fun hn => ?_⟩
  obtain ⟨g, off, h4, h5, h6, h7⟩ := h3 hn
  have hgb : g ≠ b := fun e => by
    subst e
    obtain ⟨cs, _, h9, z, _, rfl⟩ := h7 0 hn
    have c2 := h9 2 (by omega)
    rw [Lib.cell_of_heap hb] at c2
    have hsz : (#[x, y] : Array Value)[off + 0 * 3 + 2]? = none := by simp
    rw [hsz] at c2
    cases c2
  refine ⟨g, off, h4, h5, by simpa using h6, fun j hj => ?_⟩
  obtain ⟨cs, h8, h9, h10⟩ := h7 j hj
  exact ⟨cs, h8, fun k hk => (cell2_set hb hgb).trans (h9 k hk), h10⟩
theorem Dia.setbox {f : BF} {w : World} {H b i : Nat} {v x y u : Value} {T : TypeId} (h : Dia f w H v) (hb : w.heap[b]? = some (.cells #[x, y] T (0, 0))) : Dia f (w.setCell ⟨b, i, none⟩ u) H v := by
  obtain ⟨h0, A, c, h1, h2⟩ := h
  exact ⟨h0, A, c, h1, h2.setbox hb⟩
/-- a new variable -/
def BoxD (z : Nat) (u : Value) (w : World) : Prop := ∃ b, u = .pointer (some ⟨b, 0, none⟩) ∧ z ≤ b ∧ w.heap[b]? = some (.cells #[.slice none 0 0, .int .i64 0] 29 (0, 0))
/-- a variable that holds the diagram of f -/
def BoxF (f : BF) (z : Nat) (u : Value) (w : World) : Prop := ∃ b A n c x, u = .pointer (some ⟨b, 0, none⟩) ∧ z ≤ b ∧ w.heap[b]? = some (.cells #[.slice A n c, .int .i64 x] 29 (0, 0)) ∧ Dia f w w.heap.size (.agg #[.slice A n c, .int .i64 x])
theorem BoxD.old {z : Nat} {u : Value} {w w' : World} (h : BoxD z u w) (hb : Below w.heap.size w w') : BoxD z u w' := by
  obtain ⟨b, h1, h2, h3⟩ := h
  exact ⟨b, h1, h2, (hb.block _ (lt_of_heap h3)).trans h3⟩
theorem BoxF.old {f : BF} {z : Nat} {u : Value} {w w' : World} (h : BoxF f z u w) (hb : Below w.heap.size w w') : BoxF f z u w' := by
  obtain ⟨b, A, n, c, x, h1, h2, h3, h4⟩ := h
  exact ⟨b, A, n, c, x, h1, h2, (hb.block _ (lt_of_heap h3)).trans h3, h4.on hb hb.size⟩
theorem Dia.form {f : BF} {w : World} {H : Nat} {v : Value} (h : Dia f w H v) : ∃ A n c x, v = .agg #[.slice A n c, .int .i64 x] := by
  obtain ⟨_, A, c, h1, _⟩ := h
  exact ⟨A, _, c, _, h1⟩
/-- the store of a diagram into a new variable -/
theorem box_fill {f : BF} {z b n c : Nat} {A : Option Addr} {x : Int} {w W : World} (hb : w.heap[b]? = some (.cells #[.slice none 0 0, .int .i64 0] 29 (0, 0))) (hz : z ≤ b) (hd : Dia f w w.heap.size (.agg #[.slice A n c, .int .i64 x])) (hB : Below z W w) :
    ∃ V7, V7 = (w.setCell ⟨b, 0, none⟩ (.slice A n c)).setCell ⟨b, 1, none⟩ (.int .i64 x) ∧ BoxF f z (.pointer (some ⟨b, 0, none⟩)) V7 ∧ Below z W V7 ∧ (∀ (g : BF) (v : Value), Dia g w w.heap.size v → Dia g V7 V7.heap.size v) ∧ w.cell? ⟨b, 0, none⟩ = some (.slice none 0 0) ∧ w.cell? ⟨b, 1, none⟩ = some (.int .i64 0) ∧ w.frozen? ⟨b, 0, none⟩ = false ∧ w.frozen? ⟨b, 1, none⟩ = false := by
  have h0 := heap_setCell_same _ _ 0 _ _ (.slice A n c) hb
  have h1 := heap_setCell_same _ _ 1 _ _ (.int .i64 x) h0
  obtain ⟨c0, c1⟩ := cells2 hb
  have hk : ∀ (g : BF) (v : Value), Dia g w w.heap.size v → Dia g ((w.setCell ⟨b, 0, none⟩ (.slice A n c)).setCell ⟨b, 1, none⟩ (.int .i64 x)) ((w.setCell ⟨b, 0, none⟩ (.slice A n c)).setCell ⟨b, 1, none⟩ (.int .i64 x)).heap.size v := fun g v h => by
    have hs : ((w.setCell ⟨b, 0, none⟩ (.slice A n c)).setCell ⟨b, 1, none⟩ (.int .i64 x)).heap.size = w.heap.size := by simp
    rw [hs]
    exact (h.setbox hb).setbox (x := .slice A n c) (y := .int .i64 0) (by simpa using h0)
  exact ⟨_, rfl, ⟨b, A, n, c, x, rfl, hz, by simpa using h1, hk _ _ hd⟩, (hB.setCell (p := ⟨b, 0, none⟩) hz _).setCell (p := ⟨b, 1, none⟩) hz _, hk, c0, c1, Lib.frozen_of_heap hb 0, Lib.frozen_of_heap hb 1⟩
/-- .. where there are other variables -/
theorem box_fill2 {f : BF} {z b n c : Nat} {A : Option Addr} {x : Int} {w W : World} (hb : w.heap[b]? = some (.cells #[.slice none 0 0, .int .i64 0] 29 (0, 0))) (hz : z ≤ b) (hd : Dia f w w.heap.size (.agg #[.slice A n c, .int .i64 x])) (hB : Below z W w) :
    ∃ V7, V7 = (w.setCell ⟨b, 0, none⟩ (.slice A n c)).setCell ⟨b, 1, none⟩ (.int .i64 x) ∧ BoxF f z (.pointer (some ⟨b, 0, none⟩)) V7 ∧ Below z W V7 ∧ (∀ (g : BF) (v : Value), Dia g w w.heap.size v → Dia g V7 V7.heap.size v) ∧ (w.cell? ⟨b, 0, none⟩ = some (.slice none 0 0) ∧ w.cell? ⟨b, 1, none⟩ = some (.int .i64 0) ∧ w.frozen? ⟨b, 0, none⟩ = false ∧ w.frozen? ⟨b, 1, none⟩ = false) ∧
      (∀ u, BoxD z u w → u ≠ .pointer (some ⟨b, 0, none⟩) → BoxD z u V7) ∧ ∀ g u, BoxF g z u w → u ≠ .pointer (some ⟨b, 0, none⟩) → BoxF g z u V7 := by
  obtain ⟨V7, hV7, h1, h2, h3, h4, h5, h6, h7⟩ := box_fill hb hz hd hB
  have ho : ∀ g, g ≠ b → V7.heap[g]? = w.heap[g]? := fun g hg => by rw [hV7]; exact (heap_setCell_other _ _ _ _ hg).trans (heap_setCell_other _ _ _ _ hg)
  refine ⟨V7, hV7, h1, h2, h3, ⟨h4, h5, h6, h7⟩, fun u ⟨g, hu, hg, kg⟩ hne => ?_, fun g u ⟨q, A, n, c, x, hu, hq, kq, hd⟩ hne => ?_⟩
  · exact ⟨g, hu, hg, (ho g fun e => hne (by rw [hu, e])).trans kg⟩
  · exact ⟨q, A, n, c, x, hu, hq, (ho q fun e => hne (by rw [hu, e])).trans kq, h3 _ _ hd⟩
theorem box_lt {f : BF} {z : Nat} {u : Value} {w : World} {s : Bool} (h1 : s = false → BoxD z u w) (h2 : s = true → BoxF f z u w) : ∃ b, u = .pointer (some ⟨b, 0, none⟩) ∧ b < w.heap.size := by
  cases s
  · obtain ⟨b, h, _, k⟩ := h1 rfl
    exact ⟨b, h, lt_of_heap k⟩
  · obtain ⟨b, _, _, _, _, h, _, k, _⟩ := h2 rfl
    exact ⟨b, h, lt_of_heap k⟩
end Go.Proofs.YtplmbmecjhmiiaaDoor
