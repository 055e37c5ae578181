/-
 DERIVED: THE SHELF's CONTRACTS AT THIS DUMP, IN PLAIN WORDS (tools/lay-plain.mjs out of 'TryzShelfS.lean', which tools/lay-shelf.mjs wrote): THE SAME DECLARATIONS UNDER THE SAME NAMES: 'import', 'namespace', 'open', 'def', 'theorem' AND NOTHING ELSE: no command of the shelf's: FOR A HAND-IN. Each laying: the table of numbers ('.._ren') and one theorem, a field a fact of the dump's own or the kernel's comparison; each contract: ONE APPLICATION.
-/
import Derived.Shelf.Sort.Plain
import Derived.Shelf.Slices.In.SortNone
import Derived.Test.YteedihhdcbepmaaGreatProg
open Go.Proofs.Tryz
namespace Go.Proofs
open Go.Shelf
theorem fNS {α:Type}{o:Option α}{b c:α}(h:o=some b)(k:b=c:=by kernel_rfl):o=some c:=h.trans (congrArg some k)
def Tryz.laysSortS_ren:Go.Shelf.Ren:=⟨fun|190=>94|125=>144|258=>143|128=>169|129=>170|302=>161|303=>162|304=>163|305=>164|306=>165|307=>166|308=>124|309=>167|310=>168|333=>185|329=>186|330=>187|334=>188|335=>189|336=>158|344=>195|n=>n,fun|31=>31|9=>9|3=>3|46=>36|0=>0|51=>195|53=>197|4=>4|183=>189|182=>188|131=>115|5=>5|218=>205|222=>209|228=>213|229=>214|n=>n,fun|n=>n⟩
theorem Tryz.laysSortS:Go.Proofs.Lays.n190 Tryz.prog Tryz.laysSortS_ren:={
 mixed:=by kernel_rfl
 f125:=fNS func144
 f128:=fNS func169
 f129:=fNS func170
 f190:=fNS func94
 f258:=fNS func143
 f302:=fNS func161
 f303:=fNS func162
 f304:=fNS func163
 f305:=fNS func164
 f306:=fNS func165
 f307:=fNS func166
 f308:=fNS func124
 f309:=fNS func167
 f310:=fNS func168
 f329:=fNS func186
 f330:=fNS func187
 f333:=fNS func185
 f334:=fNS func188
 f335:=fNS func189
 f336:=fNS func158
 f344:=fNS func195
 t0:=underlying0
 a0:=isAgg0
 z0:=sizeOf0
 v0:=zeroValue0
 t3:=underlying3
 a3:=isAgg3
 z3:=sizeOf3
 v3:=zeroValue3
 t4:=underlying4
 a4:=isAgg4
 z4:=sizeOf4
 v4:=zeroValue4
 t5:=underlying5
 a5:=isAgg5
 z5:=sizeOf5
 v5:=zeroValue5
 t9:=underlying9
 a9:=isAgg9
 z9:=sizeOf9
 v9:=zeroValue9
 t31:=underlying31
 a31:=isAgg31
 z31:=sizeOf31
 v31:=zeroValue31
 t46:=underlying36
 a46:=isAgg36
 z46:=sizeOf36
 v46:=zeroValue36
 t51:=underlying195
 a51:=isAgg195
 z51:=sizeOf195
 v51:=zeroValue195
 t53:=underlying197
 a53:=isAgg197
 z53:=sizeOf197
 v53:=zeroValue197
 t131:=underlying115
 a131:=isAgg115
 z131:=sizeOf115
 v131:=zeroValue115
 t182:=underlying188
 a182:=isAgg188
 z182:=sizeOf188
 v182:=zeroValue188
 t183:=underlying189
 a183:=isAgg189
 z183:=sizeOf189
 v183:=zeroValue189
 t218:=underlying205
 a218:=isAgg205
 z218:=sizeOf205
 v218:=zeroValue205
 t222:=underlying209
 a222:=isAgg209
 z222:=sizeOf209
 v222:=zeroValue209
 t228:=underlying213
 a228:=isAgg213
 z228:=sizeOf213
 v228:=zeroValue213
 t229:=underlying214
 a229:=isAgg214
 z229:=sizeOf214
 v229:=zeroValue214 }
end Go.Proofs
