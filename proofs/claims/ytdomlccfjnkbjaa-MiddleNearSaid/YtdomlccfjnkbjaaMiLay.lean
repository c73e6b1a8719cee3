/- The shelf's contracts of slices.Sort and slices.Clone of numbers of 64 bits, laid over this program. -/
import Derived.Shelf.SortM.Plain
import Derived.Shelf.SlicesE.Clone
import Derived.Test.YtdomlccfjnkbjaaDpNil
namespace Go.Proofs.Ytdomlccfjnkbjaa.Pl
open Go.Shelf Go.Proofs.Ytdomlccfjnkbjaa.Sm Go.Proofs.Ytdomlccfjnkbjaa.Dp
set_option maxHeartbeats 4000000
set_option maxRecDepth 100000
set_option linter.unusedVariables false
set_option linter.unusedSimpArgs false
def sortL_ren:Go.Shelf.Ren:=⟨fun|5=>15|8=>22|7=>21|19=>33|20=>34|10=>24|11=>25|12=>26|13=>27|14=>28|15=>29|16=>30|17=>31|18=>32|30=>35|31=>36|32=>37|33=>38|34=>39|35=>40|40=>41|n=>n,fun|23=>22|25=>2|3=>3|32=>46|22=>22|0=>0|44=>58|46=>60|4=>4|36=>50|35=>49|41=>55|5=>5|9=>9|53=>61|57=>65|63=>67|64=>68|n=>n,fun n=>n⟩
theorem sortL:SlLaysM.n5 Try.prog sortL_ren where
 mixed:=by kernel_rfl
 f5:=⟨"slices.Sort[[]int64,int64]",by decide,Try.func15.trans (congrArg some kR)⟩
 f7:=⟨"slices.pdqsortOrdered[int64]",by decide,Try.func21.trans (congrArg some kR)⟩
 f8:=Try.func22.trans (congrArg some kR)
 f10:=⟨"slices.insertionSortOrdered[int64]",by decide,Try.func24.trans (congrArg some kR)⟩
 f11:=⟨"slices.heapSortOrdered[int64]",by decide,Try.func25.trans (congrArg some kR)⟩
 f12:=⟨"slices.breakPatternsOrdered[int64]",by decide,Try.func26.trans (congrArg some kR)⟩
 f13:=⟨"slices.choosePivotOrdered[int64]",by decide,Try.func27.trans (congrArg some kR)⟩
 f14:=⟨"slices.reverseRangeOrdered[int64]",by decide,Try.func28.trans (congrArg some kR)⟩
 f15:=⟨"slices.partialInsertionSortOrdered[int64]",by decide,Try.func29.trans (congrArg some kR)⟩
 f16:=⟨"cmp.Less[int64]",by decide,Try.func30.trans (congrArg some kR)⟩
 f17:=⟨"slices.partitionEqualOrdered[int64]",by decide,Try.func31.trans (congrArg some kR)⟩
 f18:=⟨"slices.partitionOrdered[int64]",by decide,Try.func32.trans (congrArg some kR)⟩
 f19:=Try.func33.trans (congrArg some kR)
 f20:=Try.func34.trans (congrArg some kR)
 f30:=⟨"slices.siftDownOrdered[int64]",by decide,Try.func35.trans (congrArg some kR)⟩
 f31:=Try.func36.trans (congrArg some kR)
 f32:=Try.func37.trans (congrArg some kR)
 f33:=⟨"slices.medianAdjacentOrdered[int64]",by decide,Try.func38.trans (congrArg some kR)⟩
 f34:=⟨"slices.medianOrdered[int64]",by decide,Try.func39.trans (congrArg some kR)⟩
 f35:=⟨"cmp.isNaN[int64]",by decide,Try.func40.trans (congrArg some kR)⟩
 f40:=⟨"slices.order2Ordered[int64]",by decide,Try.func41.trans (congrArg some kR)⟩
 t0:=Try.underlying0
 a0:=Try.isAgg0
 z0:=Try.sizeOf0
 v0:=Try.zeroValue0
 t3:=Try.underlying3
 a3:=Try.isAgg3
 z3:=Try.sizeOf3
 v3:=Try.zeroValue3
 t4:=Try.underlying4
 a4:=Try.isAgg4
 z4:=Try.sizeOf4
 v4:=Try.zeroValue4
 t5:=Try.underlying5
 a5:=Try.isAgg5
 z5:=Try.sizeOf5
 v5:=Try.zeroValue5
 t9:=Try.underlying9
 a9:=Try.isAgg9
 z9:=Try.sizeOf9
 v9:=Try.zeroValue9
 t22:=Try.underlying22
 a22:=Try.isAgg22
 z22:=Try.sizeOf22
 v22:=Try.zeroValue22
 t23:=Try.underlying22
 a23:=Try.isAgg22
 z23:=Try.sizeOf22
 v23:=Try.zeroValue22
 t25:=Try.underlying2
 a25:=Try.isAgg2
 z25:=Try.sizeOf2
 v25:=Try.zeroValue2
 t32:=Try.underlying46
 a32:=Try.isAgg46
 z32:=Try.sizeOf46
 v32:=Try.zeroValue46
 t35:=Try.underlying49
 a35:=Try.isAgg49
 z35:=Try.sizeOf49
 v35:=Try.zeroValue49
 t36:=Try.underlying50
 a36:=Try.isAgg50
 z36:=Try.sizeOf50
 v36:=Try.zeroValue50
 t41:=Try.underlying55
 a41:=Try.isAgg55
 z41:=Try.sizeOf55
 v41:=Try.zeroValue55
 t44:=Try.underlying58
 a44:=Try.isAgg58
 z44:=Try.sizeOf58
 v44:=Try.zeroValue58
 t46:=Try.underlying60
 a46:=Try.isAgg60
 z46:=Try.sizeOf60
 v46:=Try.zeroValue60
 t53:=Try.underlying61
 a53:=Try.isAgg61
 z53:=Try.sizeOf61
 v53:=Try.zeroValue61
 t57:=Try.underlying65
 a57:=Try.isAgg65
 z57:=Try.sizeOf65
 v57:=Try.zeroValue65
 t63:=Try.underlying67
 a63:=Try.isAgg67
 z63:=Try.sizeOf67
 v63:=Try.zeroValue67
 t64:=Try.underlying68
 a64:=Try.isAgg68
 z64:=Try.sizeOf68
 v64:=Try.zeroValue68
def cloneL_ren:Go.Shelf.Ren:=⟨fun|41=>14|n=>n,fun|22=>22|23=>2|4=>4|n=>n,fun n=>n⟩
theorem cloneL:SlLaysE0.n41 Try.prog cloneL_ren where
 mixed:=by kernel_rfl
 f41:=⟨"slices.Clone[[]int64,int64]",by decide,Try.func14.trans (congrArg some kR)⟩
 t4:=Try.underlying4
 a4:=Try.isAgg4
 z4:=Try.sizeOf4
 v4:=Try.zeroValue4
 t22:=Try.underlying22
 a22:=Try.isAgg22
 z22:=Try.sizeOf22
 v22:=Try.zeroValue22
end Go.Proofs.Ytdomlccfjnkbjaa.Pl
