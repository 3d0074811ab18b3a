import Derived.Test.YtfmmllpjgkgeaaaGreatDoorPart38
set_option linter.unusedVariables false
set_option linter.unusedSimpArgs false
set_option maxHeartbeats 16000000
set_option maxRecDepth 100000
namespace Go.Proofs.YtfmmllpjgkgeaaaGreatDoor
def piN (m:Nat):Nat:=if m<2 then m+2 else if m<4 then m-2 else m
structure RenE (x y:Ev):Prop where
 p:toL y.p=toL x.p
 a:y.a=x.a
 v:toL y.v=toL x.v
 n:y.n=x.n
 saw:∀ k,y.saw.getD (piN k) false=x.saw.getD k false
structure RenF (n:Nat) (g h:FrD):Prop where
 src:h.src=n-1-g.src
 dst:h.dst=n-1-g.dst
 ack:h.ack=g.ack
 known:∀ m,h.known.getD (piN m) false=g.known.getD m false
structure Ren (n:Nat) (sx sy:St):Prop where
 len:sy.es.length=sx.es.length
 l4:4<=sx.es.length
 ev:∀ m x y,sx.es[m]? = some x->sy.es[piN m]? = some y->RenE x y
 lowx:∀ m x,m<4->sx.es[m]? = some x->toL x.p=[115,122,122]
 lowy:∀ m x,m<4->sy.es[m]? = some x->toL x.p=[115,122,122]
 kn:∀ i,i<n->∀ m,(sy.kn.getD (n-1-i) []).getD (piN m) false=(sx.kn.getD i []).getD m false
 fl:sy.fs.length=sx.fs.length
 fr:∀ (k:Nat) g h,sx.fs[k]? = some g->sy.fs[k]? = some h->RenF n g h

end Go.Proofs.YtfmmllpjgkgeaaaGreatDoor

