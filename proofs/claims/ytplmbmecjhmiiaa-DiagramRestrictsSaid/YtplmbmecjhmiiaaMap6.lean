/- Maps from pairs and nodes to references. -/
import Derived.Test.YtplmbmecjhmiiaaKit6
import Derived.Maps.OwnSet
import Derived.Maps.Views
import Derived.Maps.Keyed
import Derived.DeepKeys4
namespace Go.Proofs.Ytplmbmecjhmiiaa
open Go Go.RowKit Go.Maps
def kv2 (x : Int × Int) : Value := .agg #[.int .i64 x.1, .int .i64 x.2]
def kv3 (x : Int × Int × Int) : Value := .agg #[.int .i64 x.1, .int .i64 x.2.1, .int .i64 x.2.2]
theorem kv2_inj {x y : Int × Int} (h : kv2 x = kv2 y) : x = y := by
  obtain ⟨a, b⟩ := x
  obtain ⟨c, d⟩ := y
  simp [kv2] at h
  rw [h.1, h.2]
theorem kv3_inj {x y : Int × Int × Int} (h : kv3 x = kv3 y) : x = y := by
  obtain ⟨a, b, e⟩ := x
  obtain ⟨c, d, f⟩ := y
  simp [kv3] at h
  rw [h.1, h.2.1, h.2.2]
theorem laidOut6 : laidOutB Try.prog = true := by kernel_rfl
theorem keyed2 : Keyed Try.prog 82 := Keyed.of_law (deep_law_laid laidOut6 (m := 2) (by omega) (of_decide_eq_true (by kernel_rfl)) (by kernel_rfl) (by kernel_rfl))
theorem keyed3 : Keyed Try.prog 32 := Keyed.of_law (deep_law_laid laidOut6 (m := 2) (by omega) (of_decide_eq_true (by kernel_rfl)) (by kernel_rfl) (by kernel_rfl))
def W6 (x : Int) : Prop := (Lit.int .i64 x).wf = true
theorem key2_ok (x : Int × Int) (h : W6 x.1 ∧ W6 x.2) : ∃ l, keyOf Try.prog 82 (kv2 x) = some l := by
  have hk : Try.prog.keyType 82 = true := by kernel_rfl
  have hsz : Try.prog.types.size = 130 + 1 := by kernel_rfl
  have hc : Try.prog.cellsOf 82 = 2 := by kernel_rfl
  have hc1 : Try.prog.cellsOf 3 = 1 := by kernel_rfl
  have hi : ∀ (d : Nat) (a : Int), W6 a → Try.prog.keyLits (d + 1) 3 [.int .i64 a] = some [.int .i64 a] := fun d a ha => by
    unfold W6 at ha
    simp [Program.keyLits, Try.underlying3, ha]
  refine Option.isSome_iff_exists.1 ?_
  unfold keyOf kv2
  rw [Try.underlying82]
  simp only [hk, Value.formed, Try.underlying82, hc, hsz, Bool.true_and]
  have hcells : (Value.agg #[.int .i64 x.1, .int .i64 x.2]).cells.toList = [.int .i64 x.1, .int .i64 x.2] := by simp [Value.cells]
  rw [hcells]
  unfold Program.keyLits
  rw [Try.underlying82]
  simp [hc, hc1, hi, h.1, h.2]
theorem key3_ok (x : Int × Int × Int) (h : W6 x.1 ∧ W6 x.2.1 ∧ W6 x.2.2) : ∃ l, keyOf Try.prog 32 (kv3 x) = some l := by
  have hk : Try.prog.keyType 32 = true := by kernel_rfl
  have hsz : Try.prog.types.size = 130 + 1 := by kernel_rfl
  have hc : Try.prog.cellsOf 32 = 3 := by kernel_rfl
  have hc1 : Try.prog.cellsOf 3 = 1 := by kernel_rfl
  have hi : ∀ (d : Nat) (a : Int), W6 a → Try.prog.keyLits (d + 1) 3 [.int .i64 a] = some [.int .i64 a] := fun d a ha => by
    unfold W6 at ha
    simp [Program.keyLits, Try.underlying3, ha]
  refine Option.isSome_iff_exists.1 ?_
  unfold keyOf kv3
  rw [Try.underlying32]
  simp only [hk, Value.formed, Try.underlying32, hc, hsz, Bool.true_and]
  have hcells : (Value.agg #[.int .i64 x.1, .int .i64 x.2.1, .int .i64 x.2.2]).cells.toList = [.int .i64 x.1, .int .i64 x.2.1, .int .i64 x.2.2] := by simp [Value.cells]
  rw [hcells]
  unfold Program.keyLits
  rw [Try.underlying32]
  simp [hc, hc1, hi, h.1, h.2.1, h.2.2]
end Go.Proofs.Ytplmbmecjhmiiaa
