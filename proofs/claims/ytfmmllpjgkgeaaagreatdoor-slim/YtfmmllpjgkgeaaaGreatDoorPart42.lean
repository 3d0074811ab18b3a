import Derived.Test.YtfmmllpjgkgeaaaGreatDoorPart39
set_option linter.unusedVariables false
set_option linter.unusedSimpArgs false
set_option maxHeartbeats 16000000
set_option maxRecDepth 100000
namespace Go.Proofs.YtfmmllpjgkgeaaaGreatDoor
open Go.RowKit
variable {F:Stt} {R:Nat->Prop}

theorem ActsV.at {w:World} {l:List ActD} {ad:Option Addr} {cap:Nat} (h:0<l.length->∃ b off,ad=some ⟨b,off,none⟩/\l.length<=cap/\ActsAt w b off l) (i:Nat) (hi:i<l.length) :
  ∃ b off,ad=some ⟨b,off,none⟩/\l.length<=cap/\∀ wx,Below w.heap.size w wx->wx.cell? ⟨b,off+i*5,none⟩=some (.int .i64 l[i].kd)/\wx.cell? ⟨b,off+i*5+1,none⟩=some (.int .i64 l[i].i)/\wx.cell? ⟨b,off+i*5+2,none⟩=some (.int .i64 l[i].j)/\wx.cell? ⟨b,off+i*5+3,none⟩=some (.int .i64 l[i].k)/\wx.cell? ⟨b,off+i*5+4,none⟩=some (.int .i64 l[i].v):=by
 obtain ⟨b,off,h1,h2,h3⟩:=h (by omega)
 refine ⟨b,off,h1,h2,fun wx hb=>?_⟩
 have h4:=h3.below hb
 exact ⟨h4.c0 i hi,h4.c1 i hi,h4.c2 i hi,h4.c3 i hi,h4.c4 i hi⟩

section
variable {T:Nat->Prop} {w wr w':World} {x tb n:Nat} {s:St}
end
end Go.Proofs.YtfmmllpjgkgeaaaGreatDoor

