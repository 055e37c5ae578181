/-
  NARROWER THAN 'FOR EVERY INPUT', by the rows' own cells (each row's printed sentence says how): ValueValid: loops.
  DERIVED. THE GIVEN ROWS OF THIS SEAT. 5 by the template 'for every input the law returns true; each argument reads behind the call as it read before'; 0 by the template 'total and deterministic' (their statements: YtjfknigiehggkaaGreatTotals.lean).
  GIVEN WITH THE SEED: the statements are not yours to turn. If you find one false, say at which input.
  Laid BY PROGRAM, IN A SANDBOX (cutbox-rows.mjs): the forced cells as the released guide's own fill.sh prints them over the translation 1e8be5ecdc5bbebb… (all of the seat's roots in one cut). By AI agents, Wed Nov 11 2026. No macro, syntax, notation, axiom, sorry.
-/
import Derived.Test.YtjfknigiehggkaaGreatChecked
import GoSem.Claim
import GoSem.ClaimJoined
import GoSem.ClaimMapViews
import Derived.JoinedTies
import Derived.KernelRfl
namespace Go.Proofs.YtjfknigiehggkaaGreat
/- THE CELL 'sum', in the pinned program and in every row, IS THE sha256 OF THE DUMP (.gsa) THAT YtjfknigiehggkaaGreatProg.lean LOADS. Nothing in Lean hashes anything: it is a label: what it is worth is what the hold of that sum in a sandbox is worth. -/
noncomputable def Tryz.pinned : Pinned := { name := "ytjfknigiehggkaagreat", sum := "1e8be5ecdc5bbebbe56dea2324348ad00ec0629669529b42e953cf9214479166", checked := Tryz.checked }
namespace Rows
def none {H : Type} : Left H := { results := [], args := [] }

/-- 'semtypelaw4.ValueValid': WHATEVER THE INPUT: true; the input reads as it did. -/
def valueValidSpec : ChangeSpec := { name := "valueValid", fn := fun _ => fun
  | [d1, d2, d3, d4, d5] => { results := [.lit (.bool true)], args := [d1, d2, d3, d4, d5] }
  | _ => none }
def valueValidRow : OpenClaim := { program := "ytjfknigiehggkaagreat", sum := "1e8be5ecdc5bbebbe56dea2324348ad00ec0629669529b42e953cf9214479166", func := "semtype/semtypelaw4.ValueValid", spec := "valueValid", inPlace := ["internal/bytealg.abigen_runtime_cmpstring"], unfollowed := true, recurses := true, loops := true, apart := false }
def ValueValidSaid : Prop := valueValidRow.holds Tryz.pinned (OpenSpec.ofChange valueValidSpec)

/-- ITS FALSE NEIGHBOUR: 'it returns false'. Refute it at one input. -/
def valueValidWrong : ChangeSpec := { name := "valueValid", fn := fun _ => fun
  | [d1, d2, d3, d4, d5] => { results := [.lit (.bool false)], args := [d1, d2, d3, d4, d5] }
  | _ => none }
def ValueValidWrongFalsely : Prop := valueValidRow.holds Tryz.pinned (OpenSpec.ofChange valueValidWrong)

/-- 'semtypelaw4.ValueBuilds': WHATEVER THE INPUT: true; the input reads as it did. -/
def valueBuildsSpec : ChangeSpec := { name := "valueBuilds", fn := fun _ => fun
  | [d1, d2, d3] => { results := [.lit (.bool true)], args := [d1, d2, d3] }
  | _ => none }
def valueBuildsRow : OpenClaim := { program := "ytjfknigiehggkaagreat", sum := "1e8be5ecdc5bbebbe56dea2324348ad00ec0629669529b42e953cf9214479166", func := "semtype/semtypelaw4.ValueBuilds", spec := "valueBuilds", inPlace := ["internal/bytealg.abigen_runtime_cmpstring"], unfollowed := true, recurses := true, apart := false }
def ValueBuildsSaid : Prop := valueBuildsRow.holds Tryz.pinned (OpenSpec.ofChange valueBuildsSpec)

/-- ITS FALSE NEIGHBOUR: 'it returns false'. Refute it at one input. -/
def valueBuildsWrong : ChangeSpec := { name := "valueBuilds", fn := fun _ => fun
  | [d1, d2, d3] => { results := [.lit (.bool false)], args := [d1, d2, d3] }
  | _ => none }
def ValueBuildsWrongFalsely : Prop := valueBuildsRow.holds Tryz.pinned (OpenSpec.ofChange valueBuildsWrong)

/-- 'semtypelaw4.ValueMaps': WHATEVER THE INPUT: true; the input reads as it did. -/
def valueMapsSpec : ChangeSpec := { name := "valueMaps", fn := fun _ => fun
  | [d1, d2] => { results := [.lit (.bool true)], args := [d1, d2] }
  | _ => none }
def valueMapsRow : OpenClaim := { program := "ytjfknigiehggkaagreat", sum := "1e8be5ecdc5bbebbe56dea2324348ad00ec0629669529b42e953cf9214479166", func := "semtype/semtypelaw4.ValueMaps", spec := "valueMaps", inPlace := ["internal/bytealg.abigen_runtime_cmpstring"], unfollowed := true, recurses := true, apart := false }
def ValueMapsSaid : Prop := valueMapsRow.holds Tryz.pinned (OpenSpec.ofChange valueMapsSpec)

/-- ITS FALSE NEIGHBOUR: 'it returns false'. Refute it at one input. -/
def valueMapsWrong : ChangeSpec := { name := "valueMaps", fn := fun _ => fun
  | [d1, d2] => { results := [.lit (.bool false)], args := [d1, d2] }
  | _ => none }
def ValueMapsWrongFalsely : Prop := valueMapsRow.holds Tryz.pinned (OpenSpec.ofChange valueMapsWrong)

/-- 'semtypelaw4.ValueFunctions': WHATEVER THE INPUT: true; the input reads as it did. -/
def valueFunctionsSpec : ChangeSpec := { name := "valueFunctions", fn := fun _ => fun
  | [d1, d2, d3] => { results := [.lit (.bool true)], args := [d1, d2, d3] }
  | _ => none }
def valueFunctionsRow : OpenClaim := { program := "ytjfknigiehggkaagreat", sum := "1e8be5ecdc5bbebbe56dea2324348ad00ec0629669529b42e953cf9214479166", func := "semtype/semtypelaw4.ValueFunctions", spec := "valueFunctions", inPlace := ["internal/bytealg.abigen_runtime_cmpstring"], unfollowed := true, recurses := true, apart := false }
def ValueFunctionsSaid : Prop := valueFunctionsRow.holds Tryz.pinned (OpenSpec.ofChange valueFunctionsSpec)

/-- ITS FALSE NEIGHBOUR: 'it returns false'. Refute it at one input. -/
def valueFunctionsWrong : ChangeSpec := { name := "valueFunctions", fn := fun _ => fun
  | [d1, d2, d3] => { results := [.lit (.bool false)], args := [d1, d2, d3] }
  | _ => none }
def ValueFunctionsWrongFalsely : Prop := valueFunctionsRow.holds Tryz.pinned (OpenSpec.ofChange valueFunctionsWrong)

/-- 'semtypelaw4.ValueLabels': WHATEVER THE INPUT: true; the input reads as it did. -/
def valueLabelsSpec : ChangeSpec := { name := "valueLabels", fn := fun _ => fun
  | [d1, d2] => { results := [.lit (.bool true)], args := [d1, d2] }
  | _ => none }
def valueLabelsRow : OpenClaim := { program := "ytjfknigiehggkaagreat", sum := "1e8be5ecdc5bbebbe56dea2324348ad00ec0629669529b42e953cf9214479166", func := "semtype/semtypelaw4.ValueLabels", spec := "valueLabels", inPlace := ["internal/bytealg.abigen_runtime_cmpstring"], unfollowed := true, recurses := true, apart := false }
def ValueLabelsSaid : Prop := valueLabelsRow.holds Tryz.pinned (OpenSpec.ofChange valueLabelsSpec)

/-- ITS FALSE NEIGHBOUR: 'it returns false'. Refute it at one input. -/
def valueLabelsWrong : ChangeSpec := { name := "valueLabels", fn := fun _ => fun
  | [d1, d2] => { results := [.lit (.bool false)], args := [d1, d2] }
  | _ => none }
def ValueLabelsWrongFalsely : Prop := valueLabelsRow.holds Tryz.pinned (OpenSpec.ofChange valueLabelsWrong)

/- THE SECOND FORM. 'bulk': how many values and letters a reading holds, each counted each time it is reached (what is shared counts as often as it is met; a slice's spare places count too). A statement '..UptoSaid' is the law's where the arguments, and the package variables that the reading takes, are together of bulk at most 1048576: NARROWER than '..Said'. Prove '..Said' where nothing that the law and all that it calls make is longer than what came in: it says more and counts as full. Else prove '..UptoSaid'. A law counts once. -/
mutual
def uptoBulk {H : Type} : DataW H → Nat
  | .lit (.string bytes) => bytes.length + 1
  | .lit _ => 1
  | .nil => 1
  | .ptr d => uptoBulk d + 1
  | .slice elems spare => uptoBulkAll elems + uptoBulkAll spare + 1
  | .agg parts => uptoBulkAll parts + 1
  | .iface _ d => uptoBulk d + 1
  | .map entries => uptoBulkEntries entries + 1
  | .held _ => 1
def uptoBulkAll {H : Type} : List (DataW H) → Nat
  | [] => 0
  | d :: r => uptoBulk d + uptoBulkAll r
def uptoBulkEntries {H : Type} : List (Lit × DataW H) → Nat
  | [] => 0
  | x :: r => uptoBulkEntry x + uptoBulkEntries r
def uptoBulkEntry {H : Type} : Lit × DataW H → Nat
  | (.string bytes, d) => bytes.length + uptoBulk d + 1
  | (_, d) => uptoBulk d + 1
 end
def uptoSmall : (H : Type) → List (DataW H) → Bool := fun _ ds => decide (uptoBulkAll ds ≤ 1048576)
def OpenSpec.upto (s : _root_.Go.ChangeSpec) : _root_.Go.OpenSpec := { _root_.Go.OpenSpec.ofChange s with cond := some uptoSmall }

/-- 'semtypelaw4.ValueValid', WHERE WHAT IT READS IS OF BULK AT MOST 1048576: true; the input reads as it did. -/
def valueValidUptoRow : OpenClaim := { program := "ytjfknigiehggkaagreat", sum := "1e8be5ecdc5bbebbe56dea2324348ad00ec0629669529b42e953cf9214479166", func := "semtype/semtypelaw4.ValueValid", spec := "valueValid", inPlace := ["internal/bytealg.abigen_runtime_cmpstring"], unfollowed := true, recurses := true, loops := true, apart := false, narrowed := true }
def ValueValidUptoSaid : Prop := valueValidUptoRow.holds Tryz.pinned (OpenSpec.upto valueValidSpec)

/-- 'semtypelaw4.ValueBuilds', WHERE WHAT IT READS IS OF BULK AT MOST 1048576: true; the input reads as it did. -/
def valueBuildsUptoRow : OpenClaim := { program := "ytjfknigiehggkaagreat", sum := "1e8be5ecdc5bbebbe56dea2324348ad00ec0629669529b42e953cf9214479166", func := "semtype/semtypelaw4.ValueBuilds", spec := "valueBuilds", inPlace := ["internal/bytealg.abigen_runtime_cmpstring"], unfollowed := true, recurses := true, apart := false, narrowed := true }
def ValueBuildsUptoSaid : Prop := valueBuildsUptoRow.holds Tryz.pinned (OpenSpec.upto valueBuildsSpec)

/-- 'semtypelaw4.ValueMaps', WHERE WHAT IT READS IS OF BULK AT MOST 1048576: true; the input reads as it did. -/
def valueMapsUptoRow : OpenClaim := { program := "ytjfknigiehggkaagreat", sum := "1e8be5ecdc5bbebbe56dea2324348ad00ec0629669529b42e953cf9214479166", func := "semtype/semtypelaw4.ValueMaps", spec := "valueMaps", inPlace := ["internal/bytealg.abigen_runtime_cmpstring"], unfollowed := true, recurses := true, apart := false, narrowed := true }
def ValueMapsUptoSaid : Prop := valueMapsUptoRow.holds Tryz.pinned (OpenSpec.upto valueMapsSpec)

/-- 'semtypelaw4.ValueFunctions', WHERE WHAT IT READS IS OF BULK AT MOST 1048576: true; the input reads as it did. -/
def valueFunctionsUptoRow : OpenClaim := { program := "ytjfknigiehggkaagreat", sum := "1e8be5ecdc5bbebbe56dea2324348ad00ec0629669529b42e953cf9214479166", func := "semtype/semtypelaw4.ValueFunctions", spec := "valueFunctions", inPlace := ["internal/bytealg.abigen_runtime_cmpstring"], unfollowed := true, recurses := true, apart := false, narrowed := true }
def ValueFunctionsUptoSaid : Prop := valueFunctionsUptoRow.holds Tryz.pinned (OpenSpec.upto valueFunctionsSpec)

/-- 'semtypelaw4.ValueLabels', WHERE WHAT IT READS IS OF BULK AT MOST 1048576: true; the input reads as it did. -/
def valueLabelsUptoRow : OpenClaim := { program := "ytjfknigiehggkaagreat", sum := "1e8be5ecdc5bbebbe56dea2324348ad00ec0629669529b42e953cf9214479166", func := "semtype/semtypelaw4.ValueLabels", spec := "valueLabels", inPlace := ["internal/bytealg.abigen_runtime_cmpstring"], unfollowed := true, recurses := true, apart := false, narrowed := true }
def ValueLabelsUptoSaid : Prop := valueLabelsUptoRow.holds Tryz.pinned (OpenSpec.upto valueLabelsSpec)

end Rows
end Go.Proofs.YtjfknigiehggkaaGreat
