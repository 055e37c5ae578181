/-
  No cell of these rows narrows 'for every input' (looked for: loops, veiled, ifaces, maps, wideKeys, modest, calm, conditions, laid).
  DERIVED. THE GIVEN ROWS OF THIS SEAT. 6 by the template 'for every input the law returns true; each argument reads behind the call as it read before'; 0 by the template 'total and deterministic' (their statements: YteedihhdcbepmaaGreatTotals.lean).
  GIVEN WITH THE SEED: the statements are not yours to turn. If you find one false, say at which input.
  Laid BY PROGRAM, IN A SANDBOX (cutbox-rows.mjs): the forced cells as the released guide's own fill.sh prints them over the translation 29fef56f31d2a793… (all of the seat's roots in one cut). By AI agents, Wed Nov 11 2026. No macro, syntax, notation, axiom, sorry.
-/
import Derived.Test.YteedihhdcbepmaaGreatChecked
import GoSem.Claim
import GoSem.ClaimJoined
import GoSem.ClaimMapViews
import Derived.JoinedTies
import Derived.KernelRfl
namespace Go.Proofs.YteedihhdcbepmaaGreat
/- THE CELL 'sum', in the pinned program and in every row, IS THE sha256 OF THE DUMP (.gsa) THAT YteedihhdcbepmaaGreatProg.lean LOADS. Nothing in Lean hashes anything: it is a label: what it is worth is what the hold of that sum in a sandbox is worth. -/
noncomputable def Tryz.pinned : Pinned := { name := "yteedihhdcbepmaagreat", sum := "29fef56f31d2a79323a59e9cf633e463cc01e0b8efd0ec94560788626e0e00d9", checked := Tryz.checked }
namespace Rows
def none {H : Type} : Left H := { results := [], args := [] }

/-- 'semtypelaw7.TypeWellFormed': WHATEVER THE INPUT: true; the input reads as it did. -/
def typeWellFormedSpec : ChangeSpec := { name := "typeWellFormed", fn := fun _ => fun
  | [d1, d2, d3, d4, d5] => { results := [.lit (.bool true)], args := [d1, d2, d3, d4, d5] }
  | _ => none }
def typeWellFormedRow : OpenClaim := { program := "yteedihhdcbepmaagreat", sum := "29fef56f31d2a79323a59e9cf633e463cc01e0b8efd0ec94560788626e0e00d9", func := "semtype/semtypelaw7.TypeWellFormed", spec := "typeWellFormed", inPlace := ["internal/bytealg.abigen_runtime_cmpstring"], unfollowed := true, recurses := true, apart := false }
def TypeWellFormedSaid : Prop := typeWellFormedRow.holds Tryz.pinned (OpenSpec.ofChange typeWellFormedSpec)

/-- ITS FALSE NEIGHBOUR: 'it returns false'. Refute it at one input. -/
def typeWellFormedWrong : ChangeSpec := { name := "typeWellFormed", fn := fun _ => fun
  | [d1, d2, d3, d4, d5] => { results := [.lit (.bool false)], args := [d1, d2, d3, d4, d5] }
  | _ => none }
def TypeWellFormedWrongFalsely : Prop := typeWellFormedRow.holds Tryz.pinned (OpenSpec.ofChange typeWellFormedWrong)

/-- 'semtypelaw7.TypeConstructors': WHATEVER THE INPUT: true; the input reads as it did. -/
def typeConstructorsSpec : ChangeSpec := { name := "typeConstructors", fn := fun _ => fun
  | [d1, d2, d3, d4, d5] => { results := [.lit (.bool true)], args := [d1, d2, d3, d4, d5] }
  | _ => none }
def typeConstructorsRow : OpenClaim := { program := "yteedihhdcbepmaagreat", sum := "29fef56f31d2a79323a59e9cf633e463cc01e0b8efd0ec94560788626e0e00d9", func := "semtype/semtypelaw7.TypeConstructors", spec := "typeConstructors", inPlace := ["internal/bytealg.abigen_runtime_cmpstring"], unfollowed := true, recurses := true, apart := false }
def TypeConstructorsSaid : Prop := typeConstructorsRow.holds Tryz.pinned (OpenSpec.ofChange typeConstructorsSpec)

/-- ITS FALSE NEIGHBOUR: 'it returns false'. Refute it at one input. -/
def typeConstructorsWrong : ChangeSpec := { name := "typeConstructors", fn := fun _ => fun
  | [d1, d2, d3, d4, d5] => { results := [.lit (.bool false)], args := [d1, d2, d3, d4, d5] }
  | _ => none }
def TypeConstructorsWrongFalsely : Prop := typeConstructorsRow.holds Tryz.pinned (OpenSpec.ofChange typeConstructorsWrong)

/-- 'semtypelaw7.TypeFunctions': WHATEVER THE INPUT: true; the input reads as it did. -/
def typeFunctionsSpec : ChangeSpec := { name := "typeFunctions", fn := fun _ => fun
  | [d1, d2, d3] => { results := [.lit (.bool true)], args := [d1, d2, d3] }
  | _ => none }
def typeFunctionsRow : OpenClaim := { program := "yteedihhdcbepmaagreat", sum := "29fef56f31d2a79323a59e9cf633e463cc01e0b8efd0ec94560788626e0e00d9", func := "semtype/semtypelaw7.TypeFunctions", spec := "typeFunctions", inPlace := ["internal/bytealg.abigen_runtime_cmpstring"], unfollowed := true, recurses := true, apart := false }
def TypeFunctionsSaid : Prop := typeFunctionsRow.holds Tryz.pinned (OpenSpec.ofChange typeFunctionsSpec)

/-- ITS FALSE NEIGHBOUR: 'it returns false'. Refute it at one input. -/
def typeFunctionsWrong : ChangeSpec := { name := "typeFunctions", fn := fun _ => fun
  | [d1, d2, d3] => { results := [.lit (.bool false)], args := [d1, d2, d3] }
  | _ => none }
def TypeFunctionsWrongFalsely : Prop := typeFunctionsRow.holds Tryz.pinned (OpenSpec.ofChange typeFunctionsWrong)

/-- 'semtypelaw7.TypeBoolean': WHATEVER THE INPUT: true; the input reads as it did. -/
def typeBooleanSpec : ChangeSpec := { name := "typeBoolean", fn := fun _ => fun
  | [d1, d2, d3, d4] => { results := [.lit (.bool true)], args := [d1, d2, d3, d4] }
  | _ => none }
def typeBooleanRow : OpenClaim := { program := "yteedihhdcbepmaagreat", sum := "29fef56f31d2a79323a59e9cf633e463cc01e0b8efd0ec94560788626e0e00d9", func := "semtype/semtypelaw7.TypeBoolean", spec := "typeBoolean", inPlace := ["internal/bytealg.abigen_runtime_cmpstring"], unfollowed := true, recurses := true, apart := false }
def TypeBooleanSaid : Prop := typeBooleanRow.holds Tryz.pinned (OpenSpec.ofChange typeBooleanSpec)

/-- ITS FALSE NEIGHBOUR: 'it returns false'. Refute it at one input. -/
def typeBooleanWrong : ChangeSpec := { name := "typeBoolean", fn := fun _ => fun
  | [d1, d2, d3, d4] => { results := [.lit (.bool false)], args := [d1, d2, d3, d4] }
  | _ => none }
def TypeBooleanWrongFalsely : Prop := typeBooleanRow.holds Tryz.pinned (OpenSpec.ofChange typeBooleanWrong)

/-- 'semtypelaw7.TypeJoin': WHATEVER THE INPUT: true; the input reads as it did. -/
def typeJoinSpec : ChangeSpec := { name := "typeJoin", fn := fun _ => fun
  | [d1, d2, d3, d4] => { results := [.lit (.bool true)], args := [d1, d2, d3, d4] }
  | _ => none }
def typeJoinRow : OpenClaim := { program := "yteedihhdcbepmaagreat", sum := "29fef56f31d2a79323a59e9cf633e463cc01e0b8efd0ec94560788626e0e00d9", func := "semtype/semtypelaw7.TypeJoin", spec := "typeJoin", inPlace := ["internal/bytealg.abigen_runtime_cmpstring"], unfollowed := true, recurses := true, apart := false }
def TypeJoinSaid : Prop := typeJoinRow.holds Tryz.pinned (OpenSpec.ofChange typeJoinSpec)

/-- ITS FALSE NEIGHBOUR: 'it returns false'. Refute it at one input. -/
def typeJoinWrong : ChangeSpec := { name := "typeJoin", fn := fun _ => fun
  | [d1, d2, d3, d4] => { results := [.lit (.bool false)], args := [d1, d2, d3, d4] }
  | _ => none }
def TypeJoinWrongFalsely : Prop := typeJoinRow.holds Tryz.pinned (OpenSpec.ofChange typeJoinWrong)

/-- 'semtypelaw7.TypeSubstitute': WHATEVER THE INPUT: true; the input reads as it did. -/
def typeSubstituteSpec : ChangeSpec := { name := "typeSubstitute", fn := fun _ => fun
  | [d1, d2, d3, d4] => { results := [.lit (.bool true)], args := [d1, d2, d3, d4] }
  | _ => none }
def typeSubstituteRow : OpenClaim := { program := "yteedihhdcbepmaagreat", sum := "29fef56f31d2a79323a59e9cf633e463cc01e0b8efd0ec94560788626e0e00d9", func := "semtype/semtypelaw7.TypeSubstitute", spec := "typeSubstitute", inPlace := ["internal/bytealg.abigen_runtime_cmpstring"], unfollowed := true, recurses := true, apart := false }
def TypeSubstituteSaid : Prop := typeSubstituteRow.holds Tryz.pinned (OpenSpec.ofChange typeSubstituteSpec)

/-- ITS FALSE NEIGHBOUR: 'it returns false'. Refute it at one input. -/
def typeSubstituteWrong : ChangeSpec := { name := "typeSubstitute", fn := fun _ => fun
  | [d1, d2, d3, d4] => { results := [.lit (.bool false)], args := [d1, d2, d3, d4] }
  | _ => none }
def TypeSubstituteWrongFalsely : Prop := typeSubstituteRow.holds Tryz.pinned (OpenSpec.ofChange typeSubstituteWrong)

/- THE SECOND FORM. 'bulk': how many values and letters a reading holds, each counted each time it is reached (what is shared counts as often as it is met; a slice's spare places count too). A statement '..UptoSaid' is the law's where the arguments, and the package variables that the reading takes, are together of bulk at most 1048576: NARROWER than '..Said'. Prove '..Said' where nothing that the law and all that it calls make is longer than what came in: it says more and counts as full. Else prove '..UptoSaid'. A law counts once. -/
mutual
def uptoBulk {H : Type} : DataW H → Nat
  | .lit (.string bytes) => bytes.length + 1
  | .lit _ => 1
  | .nil => 1
  | .ptr d => uptoBulk d + 1
  | .slice elems spare => uptoBulkAll elems + uptoBulkAll spare + 1
  | .agg parts => uptoBulkAll parts + 1
  | .iface _ d => uptoBulk d + 1
  | .map entries => uptoBulkEntries entries + 1
  | .held _ => 1
def uptoBulkAll {H : Type} : List (DataW H) → Nat
  | [] => 0
  | d :: r => uptoBulk d + uptoBulkAll r
def uptoBulkEntries {H : Type} : List (Lit × DataW H) → Nat
  | [] => 0
  | x :: r => uptoBulkEntry x + uptoBulkEntries r
def uptoBulkEntry {H : Type} : Lit × DataW H → Nat
  | (.string bytes, d) => bytes.length + uptoBulk d + 1
  | (_, d) => uptoBulk d + 1
 end
def uptoSmall : (H : Type) → List (DataW H) → Bool := fun _ ds => decide (uptoBulkAll ds ≤ 1048576)
def OpenSpec.upto (s : _root_.Go.ChangeSpec) : _root_.Go.OpenSpec := { _root_.Go.OpenSpec.ofChange s with cond := some uptoSmall }

/-- 'semtypelaw7.TypeWellFormed', WHERE WHAT IT READS IS OF BULK AT MOST 1048576: true; the input reads as it did. -/
def typeWellFormedUptoRow : OpenClaim := { program := "yteedihhdcbepmaagreat", sum := "29fef56f31d2a79323a59e9cf633e463cc01e0b8efd0ec94560788626e0e00d9", func := "semtype/semtypelaw7.TypeWellFormed", spec := "typeWellFormed", inPlace := ["internal/bytealg.abigen_runtime_cmpstring"], unfollowed := true, recurses := true, apart := false, narrowed := true }
def TypeWellFormedUptoSaid : Prop := typeWellFormedUptoRow.holds Tryz.pinned (OpenSpec.upto typeWellFormedSpec)

/-- 'semtypelaw7.TypeConstructors', WHERE WHAT IT READS IS OF BULK AT MOST 1048576: true; the input reads as it did. -/
def typeConstructorsUptoRow : OpenClaim := { program := "yteedihhdcbepmaagreat", sum := "29fef56f31d2a79323a59e9cf633e463cc01e0b8efd0ec94560788626e0e00d9", func := "semtype/semtypelaw7.TypeConstructors", spec := "typeConstructors", inPlace := ["internal/bytealg.abigen_runtime_cmpstring"], unfollowed := true, recurses := true, apart := false, narrowed := true }
def TypeConstructorsUptoSaid : Prop := typeConstructorsUptoRow.holds Tryz.pinned (OpenSpec.upto typeConstructorsSpec)

/-- 'semtypelaw7.TypeFunctions', WHERE WHAT IT READS IS OF BULK AT MOST 1048576: true; the input reads as it did. -/
def typeFunctionsUptoRow : OpenClaim := { program := "yteedihhdcbepmaagreat", sum := "29fef56f31d2a79323a59e9cf633e463cc01e0b8efd0ec94560788626e0e00d9", func := "semtype/semtypelaw7.TypeFunctions", spec := "typeFunctions", inPlace := ["internal/bytealg.abigen_runtime_cmpstring"], unfollowed := true, recurses := true, apart := false, narrowed := true }
def TypeFunctionsUptoSaid : Prop := typeFunctionsUptoRow.holds Tryz.pinned (OpenSpec.upto typeFunctionsSpec)

/-- 'semtypelaw7.TypeBoolean', WHERE WHAT IT READS IS OF BULK AT MOST 1048576: true; the input reads as it did. -/
def typeBooleanUptoRow : OpenClaim := { program := "yteedihhdcbepmaagreat", sum := "29fef56f31d2a79323a59e9cf633e463cc01e0b8efd0ec94560788626e0e00d9", func := "semtype/semtypelaw7.TypeBoolean", spec := "typeBoolean", inPlace := ["internal/bytealg.abigen_runtime_cmpstring"], unfollowed := true, recurses := true, apart := false, narrowed := true }
def TypeBooleanUptoSaid : Prop := typeBooleanUptoRow.holds Tryz.pinned (OpenSpec.upto typeBooleanSpec)

/-- 'semtypelaw7.TypeJoin', WHERE WHAT IT READS IS OF BULK AT MOST 1048576: true; the input reads as it did. -/
def typeJoinUptoRow : OpenClaim := { program := "yteedihhdcbepmaagreat", sum := "29fef56f31d2a79323a59e9cf633e463cc01e0b8efd0ec94560788626e0e00d9", func := "semtype/semtypelaw7.TypeJoin", spec := "typeJoin", inPlace := ["internal/bytealg.abigen_runtime_cmpstring"], unfollowed := true, recurses := true, apart := false, narrowed := true }
def TypeJoinUptoSaid : Prop := typeJoinUptoRow.holds Tryz.pinned (OpenSpec.upto typeJoinSpec)

/-- 'semtypelaw7.TypeSubstitute', WHERE WHAT IT READS IS OF BULK AT MOST 1048576: true; the input reads as it did. -/
def typeSubstituteUptoRow : OpenClaim := { program := "yteedihhdcbepmaagreat", sum := "29fef56f31d2a79323a59e9cf633e463cc01e0b8efd0ec94560788626e0e00d9", func := "semtype/semtypelaw7.TypeSubstitute", spec := "typeSubstitute", inPlace := ["internal/bytealg.abigen_runtime_cmpstring"], unfollowed := true, recurses := true, apart := false, narrowed := true }
def TypeSubstituteUptoSaid : Prop := typeSubstituteUptoRow.holds Tryz.pinned (OpenSpec.upto typeSubstituteSpec)

end Rows
end Go.Proofs.YteedihhdcbepmaaGreat
