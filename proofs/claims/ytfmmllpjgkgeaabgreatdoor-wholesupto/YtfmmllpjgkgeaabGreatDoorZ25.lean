import Derived.Test.YtfmmllpjgkgeaabGreatDoorZ18
import Derived.Test.YtfmmllpjgkgeaabGreatDoorZ23
set_option linter.all false
set_option maxHeartbeats 0
set_option maxRecDepth 100000
namespace Go.Proofs.YtfmmllpjgkgeaabGreatDoor
open Go.RowKit Go.Maps Go.WideMaps Go.Shelf
variable{B bx:Nat}{T:Nat->Prop}{v:Value}{W W' w0:World}
def lW(c:Thk.Ch):Thk.Bs:=Dx ⟨c.path.toArray⟩ c.act (aG c.act ⟨c.val.toArray⟩) c.n
def uU(C:Nat->Option Thk.Ch)(xs:List jB):List (Nat×Thk.Bs):=xs.map (λx=>(x.n,match C x.n with|some c=>lW c|none=>[]))
structure Gv(w0:World)(bx B:Nat)(l:Thk.Bs)(T:Nat->Prop)(W:World)(v:Value):Prop where
 bk:aC W bx #[v] 190
 row:bU B W v l
 nB:¬T bx
 nR:∀g,v.ownBlock=some g->¬T g
 fr:dV B w0 W
 tnew:∀k,T k->w0.heap.size<=k
 KJ:w0.heap.size<=bx
def Gv.nS{l:Thk.Bs}{T':Nat->Prop}(h:Gv w0 bx B l T W v)(b:aA T W W')(f:∀k,T' k->(T k\/W.heap.size<=k)/\k<W'.heap.size):Gv w0 bx B l T' W' v:=by
 have m:=h.fr.size;refine⟨h.bk.aJ b h.nB,bG h.row b (λg e=>h.nR g e),λc=>?_,λg e c=>?_, ?_,λk c=>?_,h.KJ⟩
 .rcases(f bx c).1 with a|a
  .exact h.nB a
  .have:=h.bk.lt;omega
 .rcases(f g c).1 with a|a
  .exact h.nR g e a
  .have:=(h.row.lt g e).2;omega
 .have d:=h.fr;exact⟨b.os.trans d.os,b.tape.trans d.tape,b.output.trans d.output,ς m b.size,λk c j=>(b.block k V (λi=>by have:=h.tnew k i;omega)).trans (d.block k c j)⟩
 .rcases(f k c).1 with a|a
  .exact h.tnew k a
  .omega
def Gv.put{l m:Thk.Bs}{v':Value}(h:Gv w0 bx B l T W v)(n:∀k,T k->k<W.heap.size)(c:dZ v W v' W')(j:bU B W' v' m):Gv w0 bx B m T (W'.setCell (z bx) v') v':=by
 have y:=h.fr.size;have x:=h.bk.lt;have f:aC W' bx #[v] 190:=c.blk h.row h.bk Ψ;have r:v'.ownBlock≠some bx:=ownsRow_ne j (λt u e=>by rw[show W'.heap[bx]?=_ from f]at e;cases e);have a:aA (λk=>k=bx) W' (W'.setCell (z bx) v'):=(aA.refl (λk=>k=bx) W').setCell (p:=(z bx)) rfl _;refine⟨?_,bG j a (λg c e=>r (e▸c)),h.nB,λg o d=>?_, ?_,h.tnew,h.KJ⟩
 .unfold aC at f⊢;simp[World.setCell,μ,f]
 .rcases c.loc g o with i|i
  .exact h.nR g i d
  .have:=n g d;omega
 .have b:=h.fr.trans (c.yG h.row);have w:=h.KJ;have s:=b.size;exact⟨a.os.trans b.os,a.tape.trans b.tape,a.output.trans b.output,ς s a.size,λk d q=>(a.block k V V).trans (b.block k d q)⟩
def Gv.keep{l o:Thk.Bs}{E:Nat->Prop}{b:Value}(h:Gv w0 bx B l T W v)(m:∀k,T k->k<W.heap.size)(j:∀k,E k->k<W.heap.size/\k≠bx/\v.ownBlock≠some k)(f:dZ v W b W')(q:bU B W' b o):dh (λk=>E k\/T k) W (W'.setCell (z bx) b):=by
 have d:aA (λk=>k=bx) W' (W'.setCell (z bx) b):=(aA.refl (λk=>k=bx) W').setCell (p:=(z bx)) rfl _;have n:=f.aJ.size;refine⟨ς n d.size,λk a=>?_⟩;rcases a with a|a
 .obtain⟨c,g,i⟩:=j k a;exact(d.block k V g).trans (f.aJ.block k c i)
 .have c:=m k a;exact(d.block k V (λe=>h.nB (e▸a))).trans (f.aJ.block k c (λe=>h.nR k e a))
