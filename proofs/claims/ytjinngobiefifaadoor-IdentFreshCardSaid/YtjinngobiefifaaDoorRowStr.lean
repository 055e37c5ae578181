/- A slice of strings that comes in, as the walks take it. -/
import Derived.Test.YtjinngobiefifaaDoorRowKit
import Derived.Test.YtjinngobiefifaaDoorFreshAtom
import Derived.SliceStrings
namespace Go.Proofs.YtjinngobiefifaaDoor
open Go.ChangeShapes Go.WideShapes Go.ChangeAt Go.RowKit Go.Joins
theorem strS_of_trod {H : Type} {enc : TypeId × Value → H} {W : World} {A : Option Addr} {n cap : Nat} {d : DataW H} {p : List MemPlace} (h : DataW.Trod enc Tryd.prog W 0 (fun _ => true) true 42 (.slice A n cap) d p) :
    ∃ ss, StrS W W.heap.size A n ss ∧ n ≤ 9223372036854775807 := by
  obtain ⟨fuel, hf⟩ := h
  rcases open_strings Tryd.underlying42 Tryd.underlying9 (by kernel_rfl) hf with ⟨hcs, _⟩ | ⟨a, l, c, ss, hcs, _, hl, hm, hz, _, hcell, hws⟩
  · simp [Value.cells] at hcs
    obtain ⟨rfl, rfl, rfl⟩ := hcs
    exact ⟨[], ⟨rfl, by simp, fun h => by omega⟩, by omega⟩
  · simp [Value.cells] at hcs
    obtain ⟨rfl, rfl, rfl⟩ := hcs
    have hz' : ss.length = cap := by simpa using hz
    refine ⟨ss.take n, ⟨by rw [List.length_take]; omega, fun s hs => hws s (List.mem_of_mem_take hs), fun hn => ?_⟩, by unfold maxLen at hm; omega⟩
    obtain ⟨b, off, spot⟩ := a
    have hc := hcell 0 (by omega)
    have hspot : spot = none := by simpa [Addr.add] using World.cell?_spot hc
    subst hspot
    refine ⟨b, off, rfl, by simpa [Addr.add] using World.block_lt_of_cell? _ _ hc, ?_⟩
    intro j s hs
    have hj : j < (ss.take n).length := (List.getElem?_eq_some_iff.1 hs).1
    rw [List.length_take] at hj
    have h1 := hcell j (by omega)
    have hadd : (⟨b, off, none⟩ : Addr).add j = ⟨b, off + j, none⟩ := by unfold Addr.add; split <;> simp_all
    rw [hadd] at h1
    rw [h1, List.getD_eq_getElem?_getD]
    rw [List.getElem?_take_of_lt (by omega)] at hs
    rw [hs]; rfl
end Go.Proofs.YtjinngobiefifaaDoor
