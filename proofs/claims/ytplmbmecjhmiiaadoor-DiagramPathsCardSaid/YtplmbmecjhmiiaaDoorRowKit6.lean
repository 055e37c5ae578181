/- Slices of paths that come in, as the walks take them; small closed facts of the rows. -/
import Derived.Test.YtplmbmecjhmiiaaDoorRows
import Derived.Test.YtplmbmecjhmiiaaDoorValOpen
import Derived.Test.YtplmbmecjhmiiaaDoorOfP6
import Derived.ProofKit
import Derived.OpenShut
import Derived.SliceStrings
import Derived.Deep.DeepHandedRow
import Derived.Deep.Slices
import Derived.Lib.SmallJoins
namespace Go.Proofs.YtplmbmecjhmiiaaDoor
open Go.ChangeShapes Go.WideShapes Go.ChangeAt Go.RowKit Go.Joins Go.Deep
theorem own : ownKnob Tryd.prog.godebug = none := by kernel_rfl
theorem laidOut : laidOutB Tryd.prog = true := by kernel_rfl
set_option maxRecDepth 100000 in
theorem intR_of {H : Type} {enc : TypeId × Value → H} {W : World} {fuel : Nat} {u : Value} {x : DataW H × List MemPlace} (hf : DataW.trod enc Tryd.prog W 0 (fun _ => true) true fuel 24 [u] = some x) :
    ∃ l : List Int, IntR W (fun b => b < W.heap.size) u l := by
  obtain ⟨l, hl⟩ := open_row (α := Int) (fun x cs => cs = [.int .i64 x]) Tryd.underlying24 (show Tryd.prog.cellsOf 3 = 1 by kernel_rfl) (by omega) hf (fun m cs z _ hz => by
    obtain ⟨i, e, _, wi⟩ := DataW.trod_int Tryd.underlying3 hz
    exact ⟨i, e⟩)
  exact ⟨l, hl⟩
set_option maxRecDepth 100000 in
theorem pathR_of_trod {H : Type} {enc : TypeId × Value → H} {W : World} {A : Option Addr} {n c : Nat} {d : DataW H} {p : List MemPlace} (h : DataW.Trod enc Tryd.prog W 0 (fun _ => true) true 22 (.slice A n c) d p) :
    ∃ l : List (List Int × List Int), PthR W W.heap.size (.slice A n c) l := by
  have hfl : fieldsOf Tryd.prog 26 = some [(24, 0), (24, 1)] := by kernel_rfl
  have hc1 : Tryd.prog.cellsOf 24 = 1 := by kernel_rfl
  have hc2 : Tryd.prog.cellsOf 26 = 2 := by kernel_rfl
  obtain ⟨fuel, hf⟩ := h
  have hf' : DataW.trod enc Tryd.prog W 0 (fun _ => true) true fuel 22 [.slice A n c] = some (d, p) := hf
  obtain ⟨l, hy⟩ := open_row (α := List Int × List Int) (fun x cs => ∃ s t, cs = [s, t] ∧ IntR W (fun b => b < W.heap.size) s x.1 ∧ IntR W (fun b => b < W.heap.size) t x.2) Tryd.underlying22 hc2 (by omega) hf' (by
    intro m cs z _ hz
    obtain ⟨q, rfl, hl, hg⟩ := trod_field hfl hz
    rw [hc2] at hl
    obtain ⟨a, b, rfl⟩ : ∃ a b, cs = [a, b] := by
      match cs, hl with
      | [a, b], _ => exact ⟨a, b, rfl⟩
    obtain ⟨z0, g0⟩ := hg 0 _ rfl
    obtain ⟨z1, g1⟩ := hg 1 _ rfl
    simp only [hc1, List.drop_zero, List.drop_succ_cons, List.take_succ_cons, List.take_zero] at g0 g1
    obtain ⟨l0, h0⟩ := intR_of g0
    obtain ⟨l1, h1⟩ := intR_of g1
    exact ⟨(l0, l1), a, b, rfl, h0, h1⟩)
  exact ⟨l, hy⟩
theorem uint_nat {x : Int} (h : (Lit.int .u64 x).wf = true) : ∃ a : Nat, a < 18446744073709551616 ∧ x = (a : Int) := by
  simp [Lit.wf, IntKind.min, IntKind.max, IntKind.signed, IntKind.bits] at h
  exact ⟨x.toNat, by omega, by omega⟩
end Go.Proofs.YtplmbmecjhmiiaaDoor
