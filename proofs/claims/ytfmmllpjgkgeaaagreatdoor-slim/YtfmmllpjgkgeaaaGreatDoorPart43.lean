import Derived.Test.YtfmmllpjgkgeaaaGreatDoorPart42
set_option linter.unusedVariables false
set_option linter.unusedSimpArgs false
set_option maxHeartbeats 16000000
set_option maxRecDepth 100000
namespace Go.Proofs.YtfmmllpjgkgeaaaGreatDoor
open Go.RowKit
variable {F:Stt}

end Go.Proofs.YtfmmllpjgkgeaaaGreatDoor
namespace Go.Proofs.YtfmmllpjgkgeaaaGreatDoor
open Go.RowKit
variable {F:Stt}

end Go.Proofs.YtfmmllpjgkgeaaaGreatDoor
namespace Go.Proofs.YtfmmllpjgkgeaaaGreatDoor
open Go.RowKit

structure IntsV (w:World) (v:Value) (l:List Int):Prop where
 ex:∃ ad cap,v=.slice ad l.length cap/\(0<l.length->∃ b off,ad=some ⟨b,off,none⟩/\l.length<=cap/\b<w.heap.size/\∀ j (h:j<l.length),w.cell? ⟨b,off+j,none⟩=some (.int .i64 l[j]))
 ok:∀ a∈l,i64B a
end Go.Proofs.YtfmmllpjgkgeaaaGreatDoor

