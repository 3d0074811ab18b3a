import Derived.Test.YtfmmllpjgkgeaaaGreatDoorPartV27
set_option linter.unusedVariables false
set_option linter.unusedSimpArgs false
set_option maxHeartbeats 16000000
set_option maxRecDepth 100000
namespace Go.Proofs.YtfmmllpjgkgeaaaGreatDoor
open Go.RowKit Go.Maps Go.WideMaps Go.Shelf

end Go.Proofs.YtfmmllpjgkgeaaaGreatDoor

