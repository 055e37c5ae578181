/-
  No cell of these rows narrows 'for every input' (looked for: loops, veiled, ifaces, maps, wideKeys, modest, calm, conditions, laid).
  DERIVED. THE GIVEN ROWS OF THIS SEAT. 5 by the template 'for every input the law returns true; each argument reads behind the call as it read before'; 0 by the template 'total and deterministic' (their statements: YtahapkbapbgbiaaTotals.lean).
  GIVEN WITH THE SEED: the statements are not yours to turn. If you find one false, say at which input.
  Laid BY PROGRAM, IN A SANDBOX (cutbox-rows.mjs): the forced cells as the released guide's own fill.sh prints them over the translation a4c87e94ae15a1b2… (all of the seat's roots in one cut). By AI agents, Wed Nov 11 2026. No macro, syntax, notation, axiom, sorry.
-/
import Derived.Test.YtahapkbapbgbiaaChecked
import GoSem.Claim
import GoSem.ClaimJoined
import GoSem.ClaimMapViews
import Derived.JoinedTies
import Derived.KernelRfl
namespace Go.Proofs.Ytahapkbapbgbiaa
/- THE CELL 'sum', in the pinned program and in every row, IS THE sha256 OF THE DUMP (.gsa) THAT YtahapkbapbgbiaaProg.lean LOADS. Nothing in Lean hashes anything: it is a label: what it is worth is what the hold of that sum in a sandbox is worth. -/
noncomputable def Try.pinned : Pinned := { name := "ytahapkbapbgbiaa", sum := "a4c87e94ae15a1b2881554469d92df87dadc85ae1277f072788f8e8f3bf7b325", checked := Try.checked }
namespace Rows
def none {H : Type} : Left H := { results := [], args := [] }

/-- 'semtypelaw2.IntervalNormal': WHATEVER THE INPUT: true; the input reads as it did. -/
def intervalNormalSpec : ChangeSpec := { name := "intervalNormal", fn := fun _ => fun
  | [d1, d2] => { results := [.lit (.bool true)], args := [d1, d2] }
  | _ => none }
def intervalNormalRow : OpenClaim := { program := "ytahapkbapbgbiaa", sum := "a4c87e94ae15a1b2881554469d92df87dadc85ae1277f072788f8e8f3bf7b325", func := "semtype/semtypelaw2.IntervalNormal", spec := "intervalNormal", unfollowed := true, recurses := true, apart := false }
def IntervalNormalSaid : Prop := intervalNormalRow.holds Try.pinned (OpenSpec.ofChange intervalNormalSpec)

/-- ITS FALSE NEIGHBOUR: 'it returns false'. Refute it at one input. -/
def intervalNormalWrong : ChangeSpec := { name := "intervalNormal", fn := fun _ => fun
  | [d1, d2] => { results := [.lit (.bool false)], args := [d1, d2] }
  | _ => none }
def IntervalNormalWrongFalsely : Prop := intervalNormalRow.holds Try.pinned (OpenSpec.ofChange intervalNormalWrong)

/-- 'semtypelaw2.IntervalSets': WHATEVER THE INPUT: true; the input reads as it did. -/
def intervalSetsSpec : ChangeSpec := { name := "intervalSets", fn := fun _ => fun
  | [d1, d2, d3] => { results := [.lit (.bool true)], args := [d1, d2, d3] }
  | _ => none }
def intervalSetsRow : OpenClaim := { program := "ytahapkbapbgbiaa", sum := "a4c87e94ae15a1b2881554469d92df87dadc85ae1277f072788f8e8f3bf7b325", func := "semtype/semtypelaw2.IntervalSets", spec := "intervalSets", unfollowed := true, recurses := true, apart := false }
def IntervalSetsSaid : Prop := intervalSetsRow.holds Try.pinned (OpenSpec.ofChange intervalSetsSpec)

/-- ITS FALSE NEIGHBOUR: 'it returns false'. Refute it at one input. -/
def intervalSetsWrong : ChangeSpec := { name := "intervalSets", fn := fun _ => fun
  | [d1, d2, d3] => { results := [.lit (.bool false)], args := [d1, d2, d3] }
  | _ => none }
def IntervalSetsWrongFalsely : Prop := intervalSetsRow.holds Try.pinned (OpenSpec.ofChange intervalSetsWrong)

/-- 'semtypelaw2.IntervalAlgebra': WHATEVER THE INPUT: true; the input reads as it did. -/
def intervalAlgebraSpec : ChangeSpec := { name := "intervalAlgebra", fn := fun _ => fun
  | [d1, d2] => { results := [.lit (.bool true)], args := [d1, d2] }
  | _ => none }
def intervalAlgebraRow : OpenClaim := { program := "ytahapkbapbgbiaa", sum := "a4c87e94ae15a1b2881554469d92df87dadc85ae1277f072788f8e8f3bf7b325", func := "semtype/semtypelaw2.IntervalAlgebra", spec := "intervalAlgebra", unfollowed := true, recurses := true, apart := false }
def IntervalAlgebraSaid : Prop := intervalAlgebraRow.holds Try.pinned (OpenSpec.ofChange intervalAlgebraSpec)

/-- ITS FALSE NEIGHBOUR: 'it returns false'. Refute it at one input. -/
def intervalAlgebraWrong : ChangeSpec := { name := "intervalAlgebra", fn := fun _ => fun
  | [d1, d2] => { results := [.lit (.bool false)], args := [d1, d2] }
  | _ => none }
def IntervalAlgebraWrongFalsely : Prop := intervalAlgebraRow.holds Try.pinned (OpenSpec.ofChange intervalAlgebraWrong)

/-- 'semtypelaw2.IntervalSubsets': WHATEVER THE INPUT: true; the input reads as it did. -/
def intervalSubsetsSpec : ChangeSpec := { name := "intervalSubsets", fn := fun _ => fun
  | [d1, d2, d3] => { results := [.lit (.bool true)], args := [d1, d2, d3] }
  | _ => none }
def intervalSubsetsRow : OpenClaim := { program := "ytahapkbapbgbiaa", sum := "a4c87e94ae15a1b2881554469d92df87dadc85ae1277f072788f8e8f3bf7b325", func := "semtype/semtypelaw2.IntervalSubsets", spec := "intervalSubsets", unfollowed := true, recurses := true, apart := false }
def IntervalSubsetsSaid : Prop := intervalSubsetsRow.holds Try.pinned (OpenSpec.ofChange intervalSubsetsSpec)

/-- ITS FALSE NEIGHBOUR: 'it returns false'. Refute it at one input. -/
def intervalSubsetsWrong : ChangeSpec := { name := "intervalSubsets", fn := fun _ => fun
  | [d1, d2, d3] => { results := [.lit (.bool false)], args := [d1, d2, d3] }
  | _ => none }
def IntervalSubsetsWrongFalsely : Prop := intervalSubsetsRow.holds Try.pinned (OpenSpec.ofChange intervalSubsetsWrong)

/-- 'semtypelaw2.IntervalLeast': WHATEVER THE INPUT: true; the input reads as it did. -/
def intervalLeastSpec : ChangeSpec := { name := "intervalLeast", fn := fun _ => fun
  | [d1, d2] => { results := [.lit (.bool true)], args := [d1, d2] }
  | _ => none }
def intervalLeastRow : OpenClaim := { program := "ytahapkbapbgbiaa", sum := "a4c87e94ae15a1b2881554469d92df87dadc85ae1277f072788f8e8f3bf7b325", func := "semtype/semtypelaw2.IntervalLeast", spec := "intervalLeast", unfollowed := true, recurses := true, apart := false }
def IntervalLeastSaid : Prop := intervalLeastRow.holds Try.pinned (OpenSpec.ofChange intervalLeastSpec)

/-- ITS FALSE NEIGHBOUR: 'it returns false'. Refute it at one input. -/
def intervalLeastWrong : ChangeSpec := { name := "intervalLeast", fn := fun _ => fun
  | [d1, d2] => { results := [.lit (.bool false)], args := [d1, d2] }
  | _ => none }
def IntervalLeastWrongFalsely : Prop := intervalLeastRow.holds Try.pinned (OpenSpec.ofChange intervalLeastWrong)

/- THE SECOND FORM. 'bulk': how many values and letters a reading holds, each counted each time it is reached (what is shared counts as often as it is met; a slice's spare places count too). A statement '..UptoSaid' is the law's where the arguments, and the package variables that the reading takes, are together of bulk at most 1048576: NARROWER than '..Said'. Prove '..Said' where nothing that the law and all that it calls make is longer than what came in: it says more and counts as full. Else prove '..UptoSaid'. A law counts once. -/
mutual
def uptoBulk {H : Type} : DataW H → Nat
  | .lit (.string bytes) => bytes.length + 1
  | .lit _ => 1
  | .nil => 1
  | .ptr d => uptoBulk d + 1
  | .slice elems spare => uptoBulkAll elems + uptoBulkAll spare + 1
  | .agg parts => uptoBulkAll parts + 1
  | .iface _ d => uptoBulk d + 1
  | .map entries => uptoBulkEntries entries + 1
  | .held _ => 1
def uptoBulkAll {H : Type} : List (DataW H) → Nat
  | [] => 0
  | d :: r => uptoBulk d + uptoBulkAll r
def uptoBulkEntries {H : Type} : List (Lit × DataW H) → Nat
  | [] => 0
  | x :: r => uptoBulkEntry x + uptoBulkEntries r
def uptoBulkEntry {H : Type} : Lit × DataW H → Nat
  | (.string bytes, d) => bytes.length + uptoBulk d + 1
  | (_, d) => uptoBulk d + 1
 end
def uptoSmall : (H : Type) → List (DataW H) → Bool := fun _ ds => decide (uptoBulkAll ds ≤ 1048576)
def OpenSpec.upto (s : _root_.Go.ChangeSpec) : _root_.Go.OpenSpec := { _root_.Go.OpenSpec.ofChange s with cond := some uptoSmall }

/-- 'semtypelaw2.IntervalNormal', WHERE WHAT IT READS IS OF BULK AT MOST 1048576: true; the input reads as it did. -/
def intervalNormalUptoRow : OpenClaim := { program := "ytahapkbapbgbiaa", sum := "a4c87e94ae15a1b2881554469d92df87dadc85ae1277f072788f8e8f3bf7b325", func := "semtype/semtypelaw2.IntervalNormal", spec := "intervalNormal", unfollowed := true, recurses := true, apart := false, narrowed := true }
def IntervalNormalUptoSaid : Prop := intervalNormalUptoRow.holds Try.pinned (OpenSpec.upto intervalNormalSpec)

/-- 'semtypelaw2.IntervalSets', WHERE WHAT IT READS IS OF BULK AT MOST 1048576: true; the input reads as it did. -/
def intervalSetsUptoRow : OpenClaim := { program := "ytahapkbapbgbiaa", sum := "a4c87e94ae15a1b2881554469d92df87dadc85ae1277f072788f8e8f3bf7b325", func := "semtype/semtypelaw2.IntervalSets", spec := "intervalSets", unfollowed := true, recurses := true, apart := false, narrowed := true }
def IntervalSetsUptoSaid : Prop := intervalSetsUptoRow.holds Try.pinned (OpenSpec.upto intervalSetsSpec)

/-- 'semtypelaw2.IntervalAlgebra', WHERE WHAT IT READS IS OF BULK AT MOST 1048576: true; the input reads as it did. -/
def intervalAlgebraUptoRow : OpenClaim := { program := "ytahapkbapbgbiaa", sum := "a4c87e94ae15a1b2881554469d92df87dadc85ae1277f072788f8e8f3bf7b325", func := "semtype/semtypelaw2.IntervalAlgebra", spec := "intervalAlgebra", unfollowed := true, recurses := true, apart := false, narrowed := true }
def IntervalAlgebraUptoSaid : Prop := intervalAlgebraUptoRow.holds Try.pinned (OpenSpec.upto intervalAlgebraSpec)

/-- 'semtypelaw2.IntervalSubsets', WHERE WHAT IT READS IS OF BULK AT MOST 1048576: true; the input reads as it did. -/
def intervalSubsetsUptoRow : OpenClaim := { program := "ytahapkbapbgbiaa", sum := "a4c87e94ae15a1b2881554469d92df87dadc85ae1277f072788f8e8f3bf7b325", func := "semtype/semtypelaw2.IntervalSubsets", spec := "intervalSubsets", unfollowed := true, recurses := true, apart := false, narrowed := true }
def IntervalSubsetsUptoSaid : Prop := intervalSubsetsUptoRow.holds Try.pinned (OpenSpec.upto intervalSubsetsSpec)

/-- 'semtypelaw2.IntervalLeast', WHERE WHAT IT READS IS OF BULK AT MOST 1048576: true; the input reads as it did. -/
def intervalLeastUptoRow : OpenClaim := { program := "ytahapkbapbgbiaa", sum := "a4c87e94ae15a1b2881554469d92df87dadc85ae1277f072788f8e8f3bf7b325", func := "semtype/semtypelaw2.IntervalLeast", spec := "intervalLeast", unfollowed := true, recurses := true, apart := false, narrowed := true }
def IntervalLeastUptoSaid : Prop := intervalLeastUptoRow.holds Try.pinned (OpenSpec.upto intervalLeastSpec)

end Rows
end Go.Proofs.Ytahapkbapbgbiaa
