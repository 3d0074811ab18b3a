import Derived.Test.YtfmmllpjgkgeaaaGreatDoorPartS18
import Derived.Test.YtfmmllpjgkgeaaaGreatDoorPartS22
set_option linter.unusedVariables false
set_option linter.unusedSimpArgs false
set_option maxHeartbeats 16000000
set_option maxRecDepth 100000
namespace Go.Proofs.YtfmmllpjgkgeaaaGreatDoor
open Go.RowKit Go.Maps Go.WideMaps Go.Shelf
variable{B bx:Nat}{T:Nat->Prop}{v:Value}{W W' w0:World}
def txtC(c:Thk.Ch):Thk.Bs:=uS ⟨c.path.toArray⟩ c.act (au c.act ⟨c.val.toArray⟩) c.n
def mF(C:Nat->Option Thk.Ch)(xs:List dV):List (Nat×Thk.Bs):=xs.map (λx=>(x.n,match C x.n with|some c=>txtC c|none=>[]))
structure vJ(w0:World)(bx B:Nat)(l:Thk.Bs)(T:Nat->Prop)(W:World)(v:Value):Prop where
 bk:ah W bx #[v] 93
 row:aH B W v l
 nB:¬T bx
 nR:∀g,v.ownBlock=some g->¬T g
 fr:aY B w0 W
 tnew:∀k,T k->w0.heap.size<=k
 Bq:w0.heap.size<=bx
theorem vJ.je{l:Thk.Bs}{T':Nat->Prop}(h:vJ w0 bx B l T W v)(b:Chg T W W')(f:∀k,T' k->(T k\/W.heap.size<=k)/\k<W'.heap.size):vJ w0 bx B l T' W' v:=by
 have m:=h.fr.size;refine⟨h.bk.chg b h.nB,ownsRow_chg h.row b (λg e=>h.nR g e),λc=>?_,λg e c=>?_, ?_,λk c=>?_,h.Bq⟩
 .rcases(f bx c).1 with a|a
  .exact h.nB a
  .have:=h.bk.lt;omega
 .rcases(f g c).1 with a|a
  .exact h.nR g e a
  .have:=(h.row.lt g e).2;omega
 .have d:=h.fr;exact⟨b.os.trans d.os,b.tape.trans d.tape,b.output.trans d.output,ς m b.size,λk c j=>(b.block k V (λi=>by have:=h.tnew k i;omega)).trans (d.block k c j)⟩
 .rcases(f k c).1 with a|a
  .exact h.tnew k a
  .omega
theorem vJ.put{l m:Thk.Bs}{v':Value}(h:vJ w0 bx B l T W v)(n:∀k,T k->k<W.heap.size)(c:bG v W v' W')(j:aH B W' v' m):vJ w0 bx B m T (W'.setCell (z bx) v') v':=by
 have y:=h.fr.size;have x:=h.bk.lt;have f:ah W' bx #[v] 93:=c.blk h.row h.bk Ψ;have r:v'.ownBlock≠some bx:=ownsRow_ne j (λt u e=>by rw[show W'.heap[bx]?=_ from f]at e;cases e);have a:Chg (λk=>k=bx) W' (W'.setCell (z bx) v'):=(Chg.refl (λk=>k=bx) W').setCell (p:=(z bx)) rfl _;refine⟨?_,ownsRow_chg j a (λg c e=>r (e▸c)),h.nB,λg o d=>?_, ?_,h.tnew,h.Bq⟩
 .unfold ah at f⊢;simp[World.setCell,μ,f]
 .rcases c.loc g o with i|i
  .exact h.nR g i d
  .have:=n g d;omega
 .have b:=h.fr.trans (c.pI h.row);have w:=h.Bq;have s:=b.size;exact⟨a.os.trans b.os,a.tape.trans b.tape,a.output.trans b.output,ς s a.size,λk d q=>(a.block k V V).trans (b.block k d q)⟩
theorem vJ.keep{l o:Thk.Bs}{E:Nat->Prop}{b:Value}(h:vJ w0 bx B l T W v)(m:∀k,T k->k<W.heap.size)(j:∀k,E k->k<W.heap.size/\k≠bx/\v.ownBlock≠some k)(f:bG v W b W')(q:aH B W' b o):aK (λk=>E k\/T k) W (W'.setCell (z bx) b):=by
 have d:Chg (λk=>k=bx) W' (W'.setCell (z bx) b):=(Chg.refl (λk=>k=bx) W').setCell (p:=(z bx)) rfl _;have n:=f.chg.size;refine⟨ς n d.size,λk a=>?_⟩;rcases a with a|a
 .obtain⟨c,g,i⟩:=j k a;exact(d.block k V g).trans (f.chg.block k c i)
 .have c:=m k a;exact(d.block k V (λe=>h.nB (e▸a))).trans (f.chg.block k c (λe=>h.nR k e a))
