import Derived.Test.YtoiiaankpnhppaaGreatDoorPart39
import Derived.Test.YtoiiaankpnhppaaGreatDoorPart44
set_option linter.unusedVariables false
set_option linter.unusedSimpArgs false
namespace Go.Proofs.YtoiiaankpnhppaaGreatDoor
open Go.RowKit

theorem Meets_any (w : World) (hG : Glob w) (v : Value) (l : List StepD) (hS : ScriptV w v l) (hlen : l.length ≤ 1099511627776) (hok : ∀ o ∈ l, o.ok) :
    Calls Tryz.prog 4 #[v] w fun e w' => e = .returned (.bool true) ∧ Below w.heap.size w w' := Meets_of (LawJ ProgF RefG) (law_ok prog_ok ref_ok ref_new prog_frame ref_frame) w hG v l hS hlen hok
end Go.Proofs.YtoiiaankpnhppaaGreatDoor

