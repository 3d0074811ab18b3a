import Derived.Shelf.SlSortCmp.WholeK
import Derived.Test.YtfmmllpjgkgeaabGreatDoorProg
set_option linter.all false
set_option maxHeartbeats 0
set_option maxRecDepth 100000
namespace Go.Proofs
open Go.Proofs.Tryz Go.Shelf
def Δ8{p:Prop}(h:p:=by kernel_rfl):p:=h
def Tryz.sortDot_ren:Go.Shelf.Ren:=⟨λ| 6=>226|15=>240|14=>258|28=>273|29=>274|20=>287|21=>288|22=>289|23=>290|24=>291|25=>292|26=>293|27=>294|46=>308|47=>297|48=>298|49=>309|50=>310|57=>312|n=>n,λ| 22=>143|24=>140|25=>260|3=>3|39=>241|0=>0|53=>69|55=>305|4=>4|46=>321|45=>320|50=>118|5=>5|9=>9|66=>345|70=>349|76=>357|77=>111|n=>n,λ| n=>n⟩
def Tryz.sortDot:Go.Proofs.SlLaysF0.n6 prog Tryz.sortDot_ren:={
 mixed:=Δ8
 f6:=⟨Tryz.f226.name,by decide,Tryz.func226.trans (congrArg some Δ8)⟩
 f14:=⟨Tryz.f258.name,by decide,Tryz.func258.trans (congrArg some Δ8)⟩
 f15:=Tryz.func240.trans (congrArg some Δ8)
 f20:=⟨Tryz.f287.name,by decide,Tryz.func287.trans (congrArg some Δ8)⟩
 f21:=⟨Tryz.f288.name,by decide,Tryz.func288.trans (congrArg some Δ8)⟩
 f22:=⟨Tryz.f289.name,by decide,Tryz.func289.trans (congrArg some Δ8)⟩
 f23:=⟨Tryz.f290.name,by decide,Tryz.func290.trans (congrArg some Δ8)⟩
 f24:=⟨Tryz.f291.name,by decide,Tryz.func291.trans (congrArg some Δ8)⟩
 f25:=⟨Tryz.f292.name,by decide,Tryz.func292.trans (congrArg some Δ8)⟩
 f26:=⟨Tryz.f293.name,by decide,Tryz.func293.trans (congrArg some Δ8)⟩
 f27:=⟨Tryz.f294.name,by decide,Tryz.func294.trans (congrArg some Δ8)⟩
 f28:=Tryz.func273.trans (congrArg some Δ8)
 f29:=Tryz.func274.trans (congrArg some Δ8)
 f46:=⟨Tryz.f308.name,by decide,Tryz.func308.trans (congrArg some Δ8)⟩
 f47:=Tryz.func297.trans (congrArg some Δ8)
 f48:=Tryz.func298.trans (congrArg some Δ8)
 f49:=⟨Tryz.f309.name,by decide,Tryz.func309.trans (congrArg some Δ8)⟩
 f50:=⟨Tryz.f310.name,by decide,Tryz.func310.trans (congrArg some Δ8)⟩
 f57:=⟨Tryz.f312.name,by decide,Tryz.func312.trans (congrArg some Δ8)⟩
 t0:=underlying0
 a0:=isAgg0
 z0:=sizeOf0
 v0:=zeroValue0
 t3:=underlying3
 a3:=isAgg3
 z3:=sizeOf3
 v3:=zeroValue3
 t4:=underlying4
 a4:=isAgg4
 z4:=sizeOf4
 v4:=zeroValue4
 t5:=underlying5
 a5:=isAgg5
 z5:=sizeOf5
 v5:=zeroValue5
 t9:=underlying9
 a9:=isAgg9
 z9:=sizeOf9
 v9:=zeroValue9
 t22:=underlying143
 a22:=isAgg143
 z22:=sizeOf143
 v22:=zeroValue143
 t25:=underlying260
 a25:=isAgg260
 z25:=sizeOf260
 v25:=zeroValue260
 t39:=underlying241
 a39:=isAgg241
 z39:=sizeOf241
 v39:=zeroValue241
 t45:=underlying320
 a45:=isAgg320
 z45:=sizeOf320
 v45:=zeroValue320
 t46:=underlying321
 a46:=isAgg321
 z46:=sizeOf321
 v46:=zeroValue321
 t50:=underlying118
 a50:=isAgg118
 z50:=sizeOf118
 v50:=zeroValue118
 t53:=underlying69
 a53:=isAgg69
 z53:=sizeOf69
 v53:=zeroValue69
 t55:=underlying305
 a55:=isAgg305
 z55:=sizeOf305
 v55:=zeroValue305
 t66:=underlying345
 a66:=isAgg345
 z66:=sizeOf345
 v66:=zeroValue345
 t70:=underlying349
 a70:=isAgg349
 z70:=sizeOf349
 v70:=zeroValue349
 t76:=underlying357
 a76:=isAgg357
 z76:=sizeOf357
 v76:=zeroValue357
 t77:=underlying111
 a77:=isAgg111
 z77:=sizeOf111
 v77:=zeroValue111 }
