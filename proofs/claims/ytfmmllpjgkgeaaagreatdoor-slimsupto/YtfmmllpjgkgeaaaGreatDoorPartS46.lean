import Derived.Test.YtfmmllpjgkgeaaaGreatDoorPartS42
import Derived.Test.YtfmmllpjgkgeaaaGreatDoorPartS45
set_option linter.unusedVariables false
set_option linter.unusedSimpArgs false
set_option maxHeartbeats 16000000
set_option maxRecDepth 100000
namespace Go.Proofs.YtfmmllpjgkgeaaaGreatDoor
open Go.RowKit
theorem J4(w:World)(a:Glob w)(v:Value)(l:List StepD)(b:Ac w v l)(c:l.length<=1099511627776)(d:∀o∈l,o.ok):Calls Tryz.prog 5 #[v] w λe w'=>e=.returned (.bool true)/\Below w.heap.size w w':=Ol (gQ ProgS RefG) (Uz prog_okL ref_ok QB prog_frameL ref_frame) w a v l b c d
