import Derived.Test.YtfmmllpjgkgeaaaGreatDoorPartV05
import Derived.Test.YtfmmllpjgkgeaaaGreatDoorPartV09
set_option linter.unusedVariables false
set_option linter.unusedSimpArgs false
set_option maxHeartbeats 16000000
set_option maxRecDepth 100000
namespace Go.Proofs.YtfmmllpjgkgeaaaGreatDoor
open Go.RowKit

structure FrX where
 kv:Value
 made:Int
 al:Value
 lost:Int
 had:Bool
 most:Nat
def frRow (f:FrD) (x:FrX):List Value:=[.int .i64 (f.src:Int),.int .i64 (f.dst:Int),.int .i64 (f.ack:Int),x.kv,.int .i64 x.made,x.al,.int .i64 x.lost,.bool x.had,.int .i64 (x.most:Int)]
def frCells:List FrD->List FrX->List Value
 | f :: fs,x :: xs=>frRow f x ++ frCells fs xs
 | _,_=>[]
structure FrOK (w:World) (f:FrD) (x:FrX):Prop where
 kn:SliceT 4 w x.kv (bools f.known)
 kl:f.known.length<=500
 al:∃ l:List Int,SliceT 3 w x.al (ints l)/\l.length<=500
 m1:1<=x.most
 m2:x.most<=100000
def FrAt (w:World) (fv:Value) (fs:List FrD):Prop:=∃ xs:List FrX,xs.length=fs.length/\w.ownsRow 0 233 9 fv fs.length (frCells fs xs)/\∀ j (h:j<fs.length) (h':j<xs.length),FrOK w fs[j] xs[j]
theorem FrOK.chg {M:Nat->Prop} {w w':World} {f:FrD} {x:FrX} (h:FrOK w f x) (hc:Chg M w w') (h4:∀ b,Tagged w b 4->¬M b) (h5:IntsKept w w'):FrOK w' f x:=by
 obtain ⟨l,h1,h2⟩:=h.al
 obtain ⟨l',h3,h6⟩:=h1.numbers h5
 exact ⟨h.kn.chg hc h4,h.kl,⟨l',h6,by omega⟩,h.m1,h.m2⟩
theorem FrAt.chg {M:Nat->Prop} {w w':World} {fv:Value} {fs:List FrD} (h:FrAt w fv fs) (hc:Chg M w w') (h3:∀ g,fv.ownBlock=some g->¬M g) (h4:∀ b,Tagged w b 4->¬M b) (h5:IntsKept w w'):FrAt w' fv fs:=by
 obtain ⟨xs,h1,h2,h6⟩:=h
 exact ⟨xs,h1,ownsRow_chg h2 hc h3,fun j a b=>(h6 j a b).chg hc h4 h5⟩
theorem FrAt.tag {w:World} {fv:Value} {fs:List FrD} (h:FrAt w fv fs):∀ g,fv.ownBlock=some g->Tagged w g 233:=by
 obtain ⟨xs,_,h2,_⟩:=h
 exact own_tag h2
theorem FrAt.nil (w:World):FrAt w (.slice none 0 0) []:=⟨[],rfl,World.ownsRow_nil _ _ _ _,fun j h=>absurd h (by simp)⟩
end Go.Proofs.YtfmmllpjgkgeaaaGreatDoor

