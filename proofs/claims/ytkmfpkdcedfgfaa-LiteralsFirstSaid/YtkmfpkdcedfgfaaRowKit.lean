/- A slice of strings and a set of names that come in, as the walks take them; small closed facts of the rows. -/
import Derived.Test.YtkmfpkdcedfgfaaKit
import Derived.ProofKit
import Derived.OpenShut
import Derived.ShutString
import Derived.SliceStrings
import Derived.Deep.DeepHandedRow
import Derived.Deep.Slices
import Derived.Lib.SmallJoins
namespace Go.Proofs.Ytkmfpkdcedfgfaa
open Go.ChangeShapes Go.WideShapes Go.ChangeAt Go.RowKit Go.Joins Go.Deep
theorem own : ownKnob Try.prog.godebug = none := by kernel_rfl
theorem laidOut : laidOutB Try.prog = true := by kernel_rfl
theorem Try.cellsN : Try.prog.cellsOf 24 = 2 := by kernel_rfl
theorem nm_of_cells {H : Type} {enc : TypeId × Value → H} {W : World} {fuel : Nat} {cs : List Value} {x : DataW H × List MemPlace} (hf : DataW.trod enc Try.prog W 0 (fun _ => true) true fuel 22 cs = some x) :
    ∃ A n cap ss, cs = [.slice A n cap] ∧ NmS W W.heap.size A n ss ∧ n ≤ 9223372036854775807 := by
  rcases open_strings Try.underlying22 Try.underlying9 (by kernel_rfl) hf with ⟨rfl, _⟩ | ⟨a, l, c, ss, rfl, _, hl, hm, hz, _, hcell, hws⟩
  · exact ⟨none, 0, 0, [], rfl, NmS.nil _ _ _, by omega⟩
  · have hz' : ss.length = c := by simpa using hz
    refine ⟨some a, l, c, lists (ss.take l), rfl, StrS.nmS ⟨by rw [List.length_take]; omega, fun s hs => hws s (List.mem_of_mem_take hs), fun hn => ?_⟩, by unfold maxLen at hm; omega⟩
    obtain ⟨b, off, spot⟩ := a
    have hc := hcell 0 (by omega)
    have hspot : spot = none := by simpa [Addr.add] using World.cell?_spot hc
    subst hspot
    refine ⟨b, off, rfl, by simpa [Addr.add] using World.block_lt_of_cell? _ _ hc, ?_⟩
    intro j s hs
    have hj : j < (ss.take l).length := (List.getElem?_eq_some_iff.1 hs).1
    rw [List.length_take] at hj
    have h1 := hcell j (by omega)
    rw [addr_add] at h1
    rw [h1, List.getD_eq_getElem?_getD]
    rw [List.getElem?_take_of_lt (by omega)] at hs
    rw [hs]; rfl
theorem nm_of_trod {H : Type} {enc : TypeId × Value → H} {W : World} {A : Option Addr} {n cap : Nat} {d : DataW H} {p : List MemPlace} (h : DataW.Trod enc Try.prog W 0 (fun _ => true) true 22 (.slice A n cap) d p) :
    ∃ ss, NmS W W.heap.size A n ss ∧ n ≤ 9223372036854775807 := by
  obtain ⟨fuel, hf⟩ := h
  obtain ⟨A', n', c', ss, hcs, hn⟩ := nm_of_cells hf
  simp [Value.cells] at hcs
  obtain ⟨rfl, rfl, rfl⟩ := hcs
  exact ⟨ss, hn⟩
theorem names_of_trod {H : Type} {enc : TypeId × Value → H} {W : World} {base : Nat} {v : Value} {d : DataW H} {p : List MemPlace} (hval : Value.okWide Try.prog W .any base 24 v) (h : DataW.Trod enc Try.prog W 0 (fun _ => true) true 24 v d p) :
    ∃ co A n c ss, v = .agg #[.bool co, .slice A n c] ∧ NmS W W.heap.size A n ss ∧ n ≤ 9223372036854775807 := by
  obtain ⟨ca, cb, ya, yb, m, rfl, hd, hp, hya, hyb⟩ := open_agg2 Try.underlying24 (by kernel_rfl) Try.cellsN hval h
  obtain ⟨co, ea, _⟩ := DataW.trod_bool Try.underlying4 hya
  obtain ⟨A, n, c, ss, eb, hn⟩ := nm_of_cells hyb
  simp at ea eb
  subst ea eb
  exact ⟨co, A, n, c, ss, rfl, hn⟩
theorem str_of (s : ByteArray) : ∃ x : Strg, s = ⟨x.toArray⟩ := ⟨s.data.toList, (mkB_of s).symm⟩
end Go.Proofs.Ytkmfpkdcedfgfaa
