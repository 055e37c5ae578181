/-
 DERIVED: THE SHELF's CONTRACTS AT THIS DUMP, IN PLAIN WORDS (tools/lay-plain.mjs out of 'TryzShelfR.lean', which tools/lay-shelf.mjs wrote): THE SAME DECLARATIONS UNDER THE SAME NAMES: 'import', 'namespace', 'open', 'def', 'theorem' AND NOTHING ELSE: no command of the shelf's: FOR A HAND-IN. Each laying: the table of numbers ('.._ren') and one theorem, a field a fact of the dump's own or the kernel's comparison; each contract: ONE APPLICATION.
-/
import Derived.Shelf.SlSortCmp.WholeK
import Derived.Shelf.SlicesE.Clone
import Derived.Test.YteedihhdcbepmaaGreatProg
open Go.Proofs.Tryz
namespace Go.Proofs
open Go.Shelf
theorem fNR {α:Type}{o:Option α}{b c:α}(h:o=some b)(k:b=c:=by kernel_rfl):o=some c:=h.trans (congrArg some k)
def Tryz.sortR_ren:Go.Shelf.Ren:=⟨fun|6=>104|15=>144|14=>148|28=>169|29=>170|20=>172|21=>173|22=>174|23=>175|24=>176|25=>177|26=>178|27=>179|46=>191|47=>186|48=>187|49=>192|50=>193|57=>196|n=>n,fun|22=>44|24=>83|25=>142|3=>3|39=>36|0=>0|53=>195|55=>197|4=>4|46=>189|45=>188|50=>115|5=>5|9=>9|66=>205|70=>209|76=>213|77=>214|n=>n,fun|n=>n⟩
theorem Tryz.sortR:Go.Proofs.SlLaysF0.n6 Tryz.prog Tryz.sortR_ren:={
 mixed:=by kernel_rfl
 f6:=⟨Tryz.f104.name,by decide,fNR func104⟩
 f14:=⟨Tryz.f148.name,by decide,fNR func148⟩
 f15:=fNR func144
 f20:=⟨Tryz.f172.name,by decide,fNR func172⟩
 f21:=⟨Tryz.f173.name,by decide,fNR func173⟩
 f22:=⟨Tryz.f174.name,by decide,fNR func174⟩
 f23:=⟨Tryz.f175.name,by decide,fNR func175⟩
 f24:=⟨Tryz.f176.name,by decide,fNR func176⟩
 f25:=⟨Tryz.f177.name,by decide,fNR func177⟩
 f26:=⟨Tryz.f178.name,by decide,fNR func178⟩
 f27:=⟨Tryz.f179.name,by decide,fNR func179⟩
 f28:=fNR func169
 f29:=fNR func170
 f46:=⟨Tryz.f191.name,by decide,fNR func191⟩
 f47:=fNR func186
 f48:=fNR func187
 f49:=⟨Tryz.f192.name,by decide,fNR func192⟩
 f50:=⟨Tryz.f193.name,by decide,fNR func193⟩
 f57:=⟨Tryz.f196.name,by decide,fNR func196⟩
 t0:=underlying0
 a0:=isAgg0
 z0:=sizeOf0
 v0:=zeroValue0
 t3:=underlying3
 a3:=isAgg3
 z3:=sizeOf3
 v3:=zeroValue3
 t4:=underlying4
 a4:=isAgg4
 z4:=sizeOf4
 v4:=zeroValue4
 t5:=underlying5
 a5:=isAgg5
 z5:=sizeOf5
 v5:=zeroValue5
 t9:=underlying9
 a9:=isAgg9
 z9:=sizeOf9
 v9:=zeroValue9
 t22:=underlying44
 a22:=isAgg44
 z22:=sizeOf44
 v22:=zeroValue44
 t25:=underlying142
 a25:=isAgg142
 z25:=sizeOf142
 v25:=zeroValue142
 t39:=underlying36
 a39:=isAgg36
 z39:=sizeOf36
 v39:=zeroValue36
 t45:=underlying188
 a45:=isAgg188
 z45:=sizeOf188
 v45:=zeroValue188
 t46:=underlying189
 a46:=isAgg189
 z46:=sizeOf189
 v46:=zeroValue189
 t50:=underlying115
 a50:=isAgg115
 z50:=sizeOf115
 v50:=zeroValue115
 t53:=underlying195
 a53:=isAgg195
 z53:=sizeOf195
 v53:=zeroValue195
 t55:=underlying197
 a55:=isAgg197
 z55:=sizeOf197
 v55:=zeroValue197
 t66:=underlying205
 a66:=isAgg205
 z66:=sizeOf205
 v66:=zeroValue205
 t70:=underlying209
 a70:=isAgg209
 z70:=sizeOf209
 v70:=zeroValue209
 t76:=underlying213
 a76:=isAgg213
 z76:=sizeOf213
 v76:=zeroValue213
 t77:=underlying214
 a77:=isAgg214
 z77:=sizeOf214
 v77:=zeroValue214 }
def Tryz.cloneR_ren:Go.Shelf.Ren:=⟨fun|41=>102|n=>n,fun|22=>44|23=>83|4=>4|n=>n,fun|n=>n⟩
theorem Tryz.cloneR:Go.Proofs.SlLaysE0.n41 Tryz.prog Tryz.cloneR_ren:={
 mixed:=by kernel_rfl
 f41:=⟨Tryz.f102.name,by decide,fNR func102⟩
 t4:=underlying4
 a4:=isAgg4
 z4:=sizeOf4
 v4:=zeroValue4
 t22:=underlying44
 a22:=isAgg44
 z22:=sizeOf44
 v22:=zeroValue44 }
end Go.Proofs
