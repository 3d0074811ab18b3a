import Derived.Test.YtfmmllpjgkgeaaaGreatDoorPartV24
set_option linter.unusedVariables false
set_option linter.unusedSimpArgs false
set_option maxHeartbeats 16000000
set_option maxRecDepth 100000
namespace Go.Proofs.YtfmmllpjgkgeaaaGreatDoor
open Go.RowKit Go.Maps Go.WideMaps Go.Shelf

theorem IsDown_any (w:World) (r:RD) (h:RepF w r):Calls Tryz.prog 62 #[.pointer (some ⟨r.rb,0,none⟩)] w fun e w'=>e=.returned (.bool false)/\w'=w:=by
 have q6:=(h.blk.cell 6).trans rfl
 clear h
 go_enter Tryz.func62,Tryz.ntmps62
 go_wp2
 go_ret
 exact ⟨rfl,rfl⟩
end Go.Proofs.YtfmmllpjgkgeaaaGreatDoor

