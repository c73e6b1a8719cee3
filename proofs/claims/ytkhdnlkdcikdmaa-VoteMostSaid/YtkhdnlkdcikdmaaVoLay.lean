/- The shelf's contract of slices.SortFunc of ints, laid over this program. -/
import Derived.Shelf.SlLaysF
import Derived.Test.YtkhdnlkdcikdmaaDpNil
namespace Go.Proofs.Ytkhdnlkdcikdmaa.Pl
open Go.Shelf Go.Proofs.Ytkhdnlkdcikdmaa.Sm Go.Proofs.Ytkhdnlkdcikdmaa.Dp
set_option maxHeartbeats 4000000
set_option maxRecDepth 100000
set_option linter.unusedVariables false
set_option linter.unusedSimpArgs false
def sortFL_ren:Go.Shelf.Ren:=⟨fun|6=>29|14=>39|15=>40|28=>51|29=>52|46=>53|47=>54|48=>55|49=>56|50=>57|57=>58|20=>43|21=>44|22=>45|23=>46|24=>47|25=>48|26=>49|27=>50|n=>n,fun|24=>3|22=>35|25=>54|3=>3|4=>4|5=>5|9=>9|39=>50|45=>64|46=>65|50=>69|53=>72|55=>74|66=>75|70=>79|76=>81|77=>25|0=>0|n=>n,fun n=>n⟩
theorem sortFL:SlLaysF.n6 Try.prog sortFL_ren where
 mixed:=by kernel_rfl
 f6:=⟨"slices.SortFunc[[]int,int]",by decide,Try.func29.trans (congrArg some kR)⟩
 f14:=⟨"slices.pdqsortCmpFunc[int]",by decide,Try.func39.trans (congrArg some kR)⟩
 f15:=Try.func40.trans (congrArg some kR)
 f20:=⟨"slices.insertionSortCmpFunc[int]",by decide,Try.func43.trans (congrArg some kR)⟩
 f21:=⟨"slices.heapSortCmpFunc[int]",by decide,Try.func44.trans (congrArg some kR)⟩
 f22:=⟨"slices.breakPatternsCmpFunc[int]",by decide,Try.func45.trans (congrArg some kR)⟩
 f23:=⟨"slices.choosePivotCmpFunc[int]",by decide,Try.func46.trans (congrArg some kR)⟩
 f24:=⟨"slices.reverseRangeCmpFunc[int]",by decide,Try.func47.trans (congrArg some kR)⟩
 f25:=⟨"slices.partialInsertionSortCmpFunc[int]",by decide,Try.func48.trans (congrArg some kR)⟩
 f26:=⟨"slices.partitionEqualCmpFunc[int]",by decide,Try.func49.trans (congrArg some kR)⟩
 f27:=⟨"slices.partitionCmpFunc[int]",by decide,Try.func50.trans (congrArg some kR)⟩
 f28:=Try.func51.trans (congrArg some kR)
 f29:=Try.func52.trans (congrArg some kR)
 f46:=⟨"slices.siftDownCmpFunc[int]",by decide,Try.func53.trans (congrArg some kR)⟩
 f47:=Try.func54.trans (congrArg some kR)
 f48:=Try.func55.trans (congrArg some kR)
 f49:=⟨"slices.medianAdjacentCmpFunc[int]",by decide,Try.func56.trans (congrArg some kR)⟩
 f50:=⟨"slices.medianCmpFunc[int]",by decide,Try.func57.trans (congrArg some kR)⟩
 f57:=⟨"slices.order2CmpFunc[int]",by decide,Try.func58.trans (congrArg some kR)⟩
 t0:=Try.underlying0
 a0:=Try.isAgg0
 z0:=Try.sizeOf0
 v0:=Try.zeroValue0
 t3:=Try.underlying3
 a3:=Try.isAgg3
 z3:=Try.sizeOf3
 v3:=Try.zeroValue3
 t4:=Try.underlying4
 a4:=Try.isAgg4
 z4:=Try.sizeOf4
 v4:=Try.zeroValue4
 t5:=Try.underlying5
 a5:=Try.isAgg5
 z5:=Try.sizeOf5
 v5:=Try.zeroValue5
 t9:=Try.underlying9
 a9:=Try.isAgg9
 z9:=Try.sizeOf9
 v9:=Try.zeroValue9
 t22:=Try.underlying35
 a22:=Try.isAgg35
 z22:=Try.sizeOf35
 v22:=Try.zeroValue35
 a24:=Try.isAgg3
 z24:=Try.sizeOf3
 t25:=Try.underlying54
 a25:=Try.isAgg54
 z25:=Try.sizeOf54
 v25:=Try.zeroValue54
 t39:=Try.underlying50
 a39:=Try.isAgg50
 z39:=Try.sizeOf50
 v39:=Try.zeroValue50
 t45:=Try.underlying64
 a45:=Try.isAgg64
 z45:=Try.sizeOf64
 v45:=Try.zeroValue64
 t46:=Try.underlying65
 a46:=Try.isAgg65
 z46:=Try.sizeOf65
 v46:=Try.zeroValue65
 t50:=Try.underlying69
 a50:=Try.isAgg69
 z50:=Try.sizeOf69
 v50:=Try.zeroValue69
 t53:=Try.underlying72
 a53:=Try.isAgg72
 z53:=Try.sizeOf72
 v53:=Try.zeroValue72
 t55:=Try.underlying74
 a55:=Try.isAgg74
 z55:=Try.sizeOf74
 v55:=Try.zeroValue74
 t66:=Try.underlying75
 a66:=Try.isAgg75
 z66:=Try.sizeOf75
 v66:=Try.zeroValue75
 t70:=Try.underlying79
 a70:=Try.isAgg79
 z70:=Try.sizeOf79
 v70:=Try.zeroValue79
 t76:=Try.underlying81
 a76:=Try.isAgg81
 z76:=Try.sizeOf81
 v76:=Try.zeroValue81
 t77:=Try.underlying25
 a77:=Try.isAgg25
 z77:=Try.sizeOf25
 v77:=Try.zeroValue25
end Go.Proofs.Ytkhdnlkdcikdmaa.Pl
