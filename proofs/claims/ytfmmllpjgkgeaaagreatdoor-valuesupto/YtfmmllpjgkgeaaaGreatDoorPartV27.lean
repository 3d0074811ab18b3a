import Derived.Test.YtfmmllpjgkgeaaaGreatDoorPartV25
import Derived.Test.YtfmmllpjgkgeaaaGreatDoorPartV26
set_option linter.unusedVariables false
set_option linter.unusedSimpArgs false
set_option maxHeartbeats 16000000
set_option maxRecDepth 100000
namespace Go.Proofs.YtfmmllpjgkgeaaaGreatDoor
open Go.RowKit Go.Maps Go.WideMaps Go.Shelf

theorem RepF.not_own {w:World} {r:RD} (h:RepF w r) {b:Nat} {cs:Array Value} {t:TypeId} (hb:Blk w b cs t) (h1:t≠125) (h2:t≠220) (h3:t≠222) (h4:t≠229):¬r.own b:=fun hk=>by
 rcases hk with rfl | hk | hk | rfl
 ·exact blk_ne h.blk hb (fun e=>h1 e.symm) rfl
 ·exact h.st.r.noCells hk hb
 ·rcases hk with rfl | hk | rfl | ⟨p,hp,hk⟩
  ·exact blk_ne h.kept.blk hb (fun e=>h2 e.symm) rfl
  ·exact row_ne hb h.kept.row h3 hk
  ·obtain ⟨N,hN⟩:=h.kept.ack
   exact hN.noTag hb
  ·exact (h.kept.st p hp).noCells hk hb
 ·obtain ⟨rs,its,h5,_⟩:=h.dsk
  obtain ⟨cs',h6⟩:=h5.blk
  exact blk_ne h6 hb (fun e=>h4 e.symm) rfl

end Go.Proofs.YtfmmllpjgkgeaaaGreatDoor

