import Derived.Test.YtfmmllpjgkgeaaaGreatDoorPartV02
set_option linter.unusedVariables false
set_option linter.unusedSimpArgs false
set_option maxHeartbeats 16000000
set_option maxRecDepth 100000
namespace Go.Proofs.YtfmmllpjgkgeaaaGreatDoor
open Go.RowKit
theorem blk_types {w:World} {b:Nat} {cs cs':Array Value} {t t':TypeId} (h:Blk w b cs t) (h':Blk w b cs' t'):cs=cs'/\t=t':=by
 have e2:some (Obj.cells _ _ _)=some (Obj.cells _ _ _):=(show w.heap[b]? = _ from h).symm.trans h'
 injection e2 with e2
 injection e2 with e1 e3
 exact ⟨e1,e3⟩
end Go.Proofs.YtfmmllpjgkgeaaaGreatDoor

