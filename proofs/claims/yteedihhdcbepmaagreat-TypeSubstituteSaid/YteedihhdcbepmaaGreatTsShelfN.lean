/-
 DERIVED: THE SHELF's CONTRACTS AT THIS DUMP, IN PLAIN WORDS (tools/lay-plain.mjs out of 'TryzShelfN.lean', which tools/lay-shelf.mjs wrote): THE SAME DECLARATIONS UNDER THE SAME NAMES: 'import', 'namespace', 'open', 'def', 'theorem' AND NOTHING ELSE: no command of the shelf's: FOR A HAND-IN. Each laying: the table of numbers ('.._ren') and one theorem, a field a fact of the dump's own or the kernel's comparison; each contract: ONE APPLICATION.
-/
import Derived.Shelf.Spec.SearchS
import Derived.Ground.NamesProg
import Derived.Test.YteedihhdcbepmaaGreatProg
open Go.Proofs.Tryz
namespace Go.Proofs
open Go.Shelf
def Tryz.laysNm226_ren:Go.Shelf.Ren:=⟨fun|26=>84|33=>124|34=>125|38=>158|n=>n,fun|24=>31|9=>9|3=>3|4=>4|40=>36|0=>0|n=>n,fun|n=>n⟩
theorem Tryz.laysNm226:Go.Proofs.Lays2.n26 Tryz.prog Tryz.laysNm226_ren:={
 mixed:=by kernel_rfl
 f26:=func84.trans (congrArg some (by kernel_rfl))
 f33:=func124.trans (congrArg some (by kernel_rfl))
 f34:=func125.trans (congrArg some (by kernel_rfl))
 f38:=func158.trans (congrArg some (by kernel_rfl))
 t0:=underlying0
 a0:=isAgg0
 z0:=sizeOf0
 v0:=zeroValue0
 t3:=underlying3
 a3:=isAgg3
 z3:=sizeOf3
 v3:=zeroValue3
 t4:=underlying4
 a4:=isAgg4
 z4:=sizeOf4
 v4:=zeroValue4
 t9:=underlying9
 a9:=isAgg9
 z9:=sizeOf9
 v9:=zeroValue9
 t24:=underlying31
 a24:=isAgg31
 z24:=sizeOf31
 v24:=zeroValue31
 t40:=underlying36
 a40:=isAgg36
 z40:=sizeOf36
 v40:=zeroValue36 }
end Go.Proofs
