import Derived.Test.YtfmmllpjgkgeaaaGreatDoorPartM39
import Derived.Test.YtfmmllpjgkgeaaaGreatDoorPartM42
set_option linter.unusedVariables false
set_option linter.unusedSimpArgs false
set_option maxHeartbeats 16000000
set_option maxRecDepth 100000
namespace Go.Proofs.YtfmmllpjgkgeaaaGreatDoor
open Go.RowKit
theorem OH(w:World)(hG:Glob w)(v:Value)(l:List dM)(hS:Ep w v l)(hlen:l.length<=1099511627776)(hok:∀o∈l,o.ok):Calls Tryz.prog 4 #[v] w λe w'=>e=.returned (.bool true)/\Below w.heap.size w w':=Sj (lG Aa SE) (XO UY XP U0 Kr CP) w hG v l hS hlen hok
