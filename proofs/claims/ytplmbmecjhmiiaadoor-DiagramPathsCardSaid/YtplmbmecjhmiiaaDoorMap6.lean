/- Maps from pairs and nodes to references. -/
import Derived.Test.YtplmbmecjhmiiaaDoorKit6
import Derived.Maps.OwnSet
import Derived.Maps.Views
import Derived.Maps.Keyed
import Derived.DeepKeys4
namespace Go.Proofs.YtplmbmecjhmiiaaDoor
open Go Go.RowKit Go.Maps
def kv2 (x : Int × Int) : Value := .agg #[.int .i64 x.1, .int .i64 x.2]
def kv3 (x : Int × Int × Int) : Value := .agg #[.int .i64 x.1, .int .i64 x.2.1, .int .i64 x.2.2]
theorem kv2_inj {x y : Int × Int} (h : kv2 x = kv2 y) : x = y := by
  obtain ⟨a, b⟩ := x
  obtain ⟨c, d⟩ := y
  simp [kv2] at h
  rw [h.1, h.2]
theorem kv3_inj {x y : Int × Int × Int} (h : kv3 x = kv3 y) : x = y := by
  obtain ⟨a, b, e⟩ := x
  obtain ⟨c, d, f⟩ := y
  simp [kv3] at h
  rw [h.1, h.2.1, h.2.2]
theorem laidOut6 : laidOutB Tryd.prog = true := by kernel_rfl
theorem keyed2 : Keyed Tryd.prog 83 := Keyed.of_law (deep_law_laid laidOut6 (m := 2) (by omega) (of_decide_eq_true (by kernel_rfl)) (by kernel_rfl) (by kernel_rfl))
theorem keyed3 : Keyed Tryd.prog 51 := Keyed.of_law (deep_law_laid laidOut6 (m := 2) (by omega) (of_decide_eq_true (by kernel_rfl)) (by kernel_rfl) (by kernel_rfl))
def W6 (x : Int) : Prop := (Lit.int .i64 x).wf = true
theorem key2_ok (x : Int × Int) (h : W6 x.1 ∧ W6 x.2) : ∃ l, keyOf Tryd.prog 83 (kv2 x) = some l := by
  have hk : Tryd.prog.keyType 83 = true := by kernel_rfl
  obtain ⟨N6, hsz⟩ : ∃ N6, Tryd.prog.types.size = N6 + 1 := ⟨Tryd.prog.types.size - 1, by kernel_rfl⟩
  have hc : Tryd.prog.cellsOf 83 = 2 := by kernel_rfl
  have hc1 : Tryd.prog.cellsOf 3 = 1 := by kernel_rfl
  have hi : ∀ (d : Nat) (a : Int), W6 a → Tryd.prog.keyLits (d + 1) 3 [.int .i64 a] = some [.int .i64 a] := fun d a ha => by
    unfold W6 at ha
    simp [Program.keyLits, Tryd.underlying3, ha]
  refine Option.isSome_iff_exists.1 ?_
  unfold keyOf kv2
  rw [Tryd.underlying83]
  simp only [hk, Value.formed, Tryd.underlying83, hc, hsz, Bool.true_and]
  have hcells : (Value.agg #[.int .i64 x.1, .int .i64 x.2]).cells.toList = [.int .i64 x.1, .int .i64 x.2] := by simp [Value.cells]
  rw [hcells]
  unfold Program.keyLits
  rw [Tryd.underlying83]
  simp [hc, hc1, hi, h.1, h.2]
theorem key3_ok (x : Int × Int × Int) (h : W6 x.1 ∧ W6 x.2.1 ∧ W6 x.2.2) : ∃ l, keyOf Tryd.prog 51 (kv3 x) = some l := by
  have hk : Tryd.prog.keyType 51 = true := by kernel_rfl
  obtain ⟨N6, hsz⟩ : ∃ N6, Tryd.prog.types.size = N6 + 1 := ⟨Tryd.prog.types.size - 1, by kernel_rfl⟩
  have hc : Tryd.prog.cellsOf 51 = 3 := by kernel_rfl
  have hc1 : Tryd.prog.cellsOf 3 = 1 := by kernel_rfl
  have hi : ∀ (d : Nat) (a : Int), W6 a → Tryd.prog.keyLits (d + 1) 3 [.int .i64 a] = some [.int .i64 a] := fun d a ha => by
    unfold W6 at ha
    simp [Program.keyLits, Tryd.underlying3, ha]
  refine Option.isSome_iff_exists.1 ?_
  unfold keyOf kv3
  rw [Tryd.underlying51]
  simp only [hk, Value.formed, Tryd.underlying51, hc, hsz, Bool.true_and]
  have hcells : (Value.agg #[.int .i64 x.1, .int .i64 x.2.1, .int .i64 x.2.2]).cells.toList = [.int .i64 x.1, .int .i64 x.2.1, .int .i64 x.2.2] := by simp [Value.cells]
  rw [hcells]
  unfold Program.keyLits
  rw [Tryd.underlying51]
  simp [hc, hc1, hi, h.1, h.2.1, h.2.2]
end Go.Proofs.YtplmbmecjhmiiaaDoor
