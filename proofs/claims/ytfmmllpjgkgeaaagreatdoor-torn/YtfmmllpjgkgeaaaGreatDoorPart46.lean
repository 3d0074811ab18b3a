import Derived.Test.YtfmmllpjgkgeaaaGreatDoorPart45
set_option linter.unusedVariables false
set_option linter.unusedSimpArgs false
set_option maxHeartbeats 16000000
set_option maxRecDepth 100000
namespace Go.Proofs.YtfmmllpjgkgeaaaGreatDoor
open Go.RowKit
variable {F:Stt}

def rowT (tb:Nat) (ov:Value):Nat->Prop:=fun q=>q=tb\/ov.ownBlock=some q
def oldsL (s:St) (k:Nat):List Int:=(List.range k).map fun q=>(cnt (s.kn.getD q []):Int)
structure GI (F:Stt) (w:World) (x tb n i:Nat) (s:St) (ov:Value) (k:Nat) (wr:World):Prop where
 a:AI F (rowT tb ov) w x tb n i s wr
 r:wr.ownsRow w.heap.size 3 1 ov k (ints (oldsL s k))
structure GJ (F:Stt) (w:World) (x tb n i:Nat) (s s':St) (ov:Value) (wr:World):Prop where
 a:AI F (rowT tb ov) w x tb n i s' wr
 r:wr.ownsRow w.heap.size 3 1 ov n (ints (oldsL s n))
end Go.Proofs.YtfmmllpjgkgeaaaGreatDoor
namespace Go.Proofs.YtfmmllpjgkgeaaaGreatDoor
open Go.RowKit
variable {F:Stt}

end Go.Proofs.YtfmmllpjgkgeaaaGreatDoor
namespace Go.Proofs.YtfmmllpjgkgeaaaGreatDoor
open Go.RowKit

structure IntsV (w:World) (v:Value) (l:List Int):Prop where
 ex:∃ ad cap,v=.slice ad l.length cap/\(0<l.length->∃ b off,ad=some ⟨b,off,none⟩/\l.length<=cap/\b<w.heap.size/\∀ j (h:j<l.length),w.cell? ⟨b,off+j,none⟩=some (.int .i64 l[j]))
 ok:∀ a∈l,i64B a
end Go.Proofs.YtfmmllpjgkgeaaaGreatDoor

