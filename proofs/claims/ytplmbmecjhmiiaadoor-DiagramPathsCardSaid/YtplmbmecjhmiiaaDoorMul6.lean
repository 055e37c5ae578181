/- math/bits.Mul and Mul64. -/
import Derived.Test.YtplmbmecjhmiiaaDoorKit6
import Derived.Shelf.Bits.Mul64
namespace Go.Proofs.YtplmbmecjhmiiaaDoor
open Go Go.RowKit
set_option maxHeartbeats 1000000 in
theorem mul64_one (y : Nat) (hy : y ≤ 1000000) (w : World) : Calls Tryd.prog 54 #[.int .u64 1, .int .u64 y] w fun e w' => e = .returned (.tuple #[.int .u64 0, .int .u64 y]) ∧ w' = w := by
  have m1 : bits .and .u64 (1 : Int) 4294967295 = 1 := by have := Mul64.maskN 1 (by omega); simpa using this
  have my : bits .and .u64 (y : Int) 4294967295 = (y : Int) := by have := Mul64.maskN y (by omega); rw [this]; omega
  have m0 : bits .and .u64 (0 : Int) 4294967295 = 0 := by have := Mul64.maskN 0 (by omega); simpa using this
  have dy : (y : Int) / 4294967296 = 0 := by omega
  have wy : IntKind.u64.wrap (y : Int) = (y : Int) := Mul64.wrapN y (by omega)
  have w0 : IntKind.u64.wrap (0 : Int) = 0 := Mul64.wrapN 0 (by omega)
  clear hy
  go_enter Tryd.func54, Tryd.ntmps54
  go_wp2
  go_ret2
  simp [m1, my, m0, dy, wy, w0]
theorem mul_one (y : Nat) (hy : y ≤ 1000000) (w : World) : Calls Tryd.prog 50 #[.int .u64 1, .int .u64 y] w fun e w' => e = .returned (.tuple #[.int .u64 0, .int .u64 y]) ∧ w' = w := by
  have c64 := mul64_one y hy w
  have eg := enters_of Tryd.func54 (by kernel_rfl) rfl
  clear hy
  go_enter Tryd.func50, Tryd.ntmps50
  go_wp2_with fail
  refine c64.mono ?_
  rintro e w' ⟨rfl, rfl⟩
  clear c64
  go_wp2
  go_ret2
  exact ⟨rfl, rfl⟩
end Go.Proofs.YtplmbmecjhmiiaaDoor
