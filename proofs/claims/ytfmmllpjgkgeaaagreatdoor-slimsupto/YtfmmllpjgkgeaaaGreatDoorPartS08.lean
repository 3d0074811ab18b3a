import Derived.Shelf.SlSortCmp.WholeK
import Derived.Test.YtfmmllpjgkgeaaaGreatDoorProg
set_option linter.unusedVariables false
set_option linter.unusedSimpArgs false
set_option maxHeartbeats 16000000
set_option maxRecDepth 100000
namespace Go.Proofs
open Go.Proofs.Tryz Go.Shelf
theorem Δ8{p:Prop}(h:p:=by kernel_rfl):p:=h
def Tryz.sortDot_ren:Go.Shelf.Ren:=⟨λ| 6=>250|15=>262|14=>279|28=>294|29=>295|20=>308|21=>309|22=>310|23=>311|24=>312|25=>313|26=>314|27=>315|46=>329|47=>318|48=>319|49=>330|50=>331|57=>333|n=>n,λ| 22=>137|24=>134|25=>271|3=>3|39=>252|0=>0|53=>71|55=>321|4=>4|46=>337|45=>336|50=>176|5=>5|9=>9|66=>361|70=>365|76=>373|77=>171|n=>n,λ| n=>n⟩
theorem Tryz.sortDot:Go.Proofs.SlLaysF0.n6 prog Tryz.sortDot_ren:={
 mixed:=Δ8
 f6:=⟨Tryz.f250.name,by decide,Tryz.func250.trans (congrArg some Δ8)⟩
 f14:=⟨Tryz.f279.name,by decide,Tryz.func279.trans (congrArg some Δ8)⟩
 f15:=Tryz.func262.trans (congrArg some Δ8)
 f20:=⟨Tryz.f308.name,by decide,Tryz.func308.trans (congrArg some Δ8)⟩
 f21:=⟨Tryz.f309.name,by decide,Tryz.func309.trans (congrArg some Δ8)⟩
 f22:=⟨Tryz.f310.name,by decide,Tryz.func310.trans (congrArg some Δ8)⟩
 f23:=⟨Tryz.f311.name,by decide,Tryz.func311.trans (congrArg some Δ8)⟩
 f24:=⟨Tryz.f312.name,by decide,Tryz.func312.trans (congrArg some Δ8)⟩
 f25:=⟨Tryz.f313.name,by decide,Tryz.func313.trans (congrArg some Δ8)⟩
 f26:=⟨Tryz.f314.name,by decide,Tryz.func314.trans (congrArg some Δ8)⟩
 f27:=⟨Tryz.f315.name,by decide,Tryz.func315.trans (congrArg some Δ8)⟩
 f28:=Tryz.func294.trans (congrArg some Δ8)
 f29:=Tryz.func295.trans (congrArg some Δ8)
 f46:=⟨Tryz.f329.name,by decide,Tryz.func329.trans (congrArg some Δ8)⟩
 f47:=Tryz.func318.trans (congrArg some Δ8)
 f48:=Tryz.func319.trans (congrArg some Δ8)
 f49:=⟨Tryz.f330.name,by decide,Tryz.func330.trans (congrArg some Δ8)⟩
 f50:=⟨Tryz.f331.name,by decide,Tryz.func331.trans (congrArg some Δ8)⟩
 f57:=⟨Tryz.f333.name,by decide,Tryz.func333.trans (congrArg some Δ8)⟩
 t0:=underlying0
 a0:=isAgg0
 z0:=sizeOf0
 v0:=zeroValue0
 t3:=underlying3
 a3:=isAgg3
 z3:=sizeOf3
 v3:=zeroValue3
 t4:=underlying4
 a4:=isAgg4
 z4:=sizeOf4
 v4:=zeroValue4
 t5:=underlying5
 a5:=isAgg5
 z5:=sizeOf5
 v5:=zeroValue5
 t9:=underlying9
 a9:=isAgg9
 z9:=sizeOf9
 v9:=zeroValue9
 t22:=underlying137
 a22:=isAgg137
 z22:=sizeOf137
 v22:=zeroValue137
 t25:=underlying271
 a25:=isAgg271
 z25:=sizeOf271
 v25:=zeroValue271
 t39:=underlying252
 a39:=isAgg252
 z39:=sizeOf252
 v39:=zeroValue252
 t45:=underlying336
 a45:=isAgg336
 z45:=sizeOf336
 v45:=zeroValue336
 t46:=underlying337
 a46:=isAgg337
 z46:=sizeOf337
 v46:=zeroValue337
 t50:=underlying176
 a50:=isAgg176
 z50:=sizeOf176
 v50:=zeroValue176
 t53:=underlying71
 a53:=isAgg71
 z53:=sizeOf71
 v53:=zeroValue71
 t55:=underlying321
 a55:=isAgg321
 z55:=sizeOf321
 v55:=zeroValue321
 t66:=underlying361
 a66:=isAgg361
 z66:=sizeOf361
 v66:=zeroValue361
 t70:=underlying365
 a70:=isAgg365
 z70:=sizeOf365
 v70:=zeroValue365
 t76:=underlying373
 a76:=isAgg373
 z76:=sizeOf373
 v76:=zeroValue373
 t77:=underlying171
 a77:=isAgg171
 z77:=sizeOf171
 v77:=zeroValue171 }
