import Derived.Test.YtfmmllpjgkgeaaaGreatDoorPartM17
import Derived.Test.YtfmmllpjgkgeaaaGreatDoorPartM21
set_option linter.unusedVariables false
set_option linter.unusedSimpArgs false
set_option maxHeartbeats 16000000
set_option maxRecDepth 100000
namespace Go.Proofs.YtfmmllpjgkgeaaaGreatDoor
open Go.RowKit Go.Maps Go.WideMaps Go.Shelf
variable{B bx:Nat}{T:Nat->Prop}{v:Value}{W W' w0:World}
def kQ(c:Thk.Ch):Thk.Bs:=yX ⟨c.path.toArray⟩ c.act (aC c.act ⟨c.val.toArray⟩) c.n
def rD(C:Nat->Option Thk.Ch)(xs:List gX):List (Nat×Thk.Bs):=xs.map (λx=>(x.n,match C x.n with|some c=>kQ c|none=>[]))
structure zC(w0:World)(bx B:Nat)(l:Thk.Bs)(T:Nat->Prop)(W:World)(v:Value):Prop where
 bk:aA W bx #[v] 93
 row:bF B W v l
 nB:¬T bx
 nR:∀g,v.ownBlock=some g->¬T g
 fr:dh B w0 W
 tnew:∀k,T k->w0.heap.size<=k
 Fq:w0.heap.size<=bx
theorem zC.lH{l:Thk.Bs}{T':Nat->Prop}(h:zC w0 bx B l T W v)(hc:ay T W W')(hT:∀k,T' k->(T k\/W.heap.size<=k)/\k<W'.heap.size):zC w0 bx B l T' W' v:=by
 have hs:=h.fr.size;refine⟨h.bk.aJ hc h.nB,aZ h.row hc (λg hg=>h.nR g hg),λhk=>?_,λg hg hk=>?_, ?_,λk hk=>?_,h.Fq⟩
 ·rcases(hT bx hk).1 with h1|h1
  ·exact h.nB h1
  ·have:=h.bk.lt;omega
 ·rcases(hT g hk).1 with h1|h1
  ·exact h.nR g hg h1
  ·have:=(h.row.lt g hg).2;omega
 ·have h0:=h.fr;exact⟨hc.os.trans h0.os,hc.tape.trans h0.tape,hc.output.trans h0.output,Nat.le_trans hs hc.size,λk hk hm=>(hc.block k (by omega) (λe=>by have:=h.tnew k e;omega)).trans (h0.block k hk hm)⟩
 ·rcases(hT k hk).1 with h1|h1
  ·exact h.tnew k h1
  ·omega
theorem zC.put{l l':Thk.Bs}{v':Value}(h:zC w0 bx B l T W v)(hT:∀k,T k->k<W.heap.size)(hg:dF v W v' W')(ho:bF B W' v' l'):zC w0 bx B l' T (W'.setCell ⟨bx,0,none⟩ v') v':=by
 have hs:=h.fr.size;have hbl:=h.bk.lt;have hbk:aA W' bx #[v] 93:=hg.blk h.row h.bk (by decide);have hne:v'.ownBlock≠some bx:=ownsRow_ne ho (λcur fz e=>by rw[show W'.heap[bx]?=_ from hbk]at e;cases e);have hcs:ay (λk=>k=bx) W' (W'.setCell ⟨bx,0,none⟩ v'):=(ay.refl (λk=>k=bx) W').setCell (p:=⟨bx,0,none⟩) rfl _;refine⟨?_,aZ ho hcs (λg hg e=>hne (e▸hg)),h.nB,λg hgv hk=>?_, ?_,h.tnew,h.Fq⟩
 ·unfold aA at hbk⊢;simp[World.setCell,Array.getElem?_modify,hbk]
 ·rcases hg.loc g hgv with h1|h1
  ·exact h.nR g h1 hk
  ·have:=hT g hk;omega
 ·have h0:=h.fr.trans (hg.uD h.row);have hb:=h.Fq;have hs0:=h0.size;exact⟨hcs.os.trans h0.os,hcs.tape.trans h0.tape,hcs.output.trans h0.output,Nat.le_trans hs0 hcs.size,λk hk hm=>(hcs.block k (by omega) (by omega)).trans (h0.block k hk hm)⟩
theorem zC.keep{l l':Thk.Bs}{E:Nat->Prop}{v':Value}(h:zC w0 bx B l T W v)(hT:∀k,T k->k<W.heap.size)(hE:∀k,E k->k<W.heap.size/\k≠bx/\v.ownBlock≠some k)(hg:dF v W v' W')(ho:bF B W' v' l'):bI (λk=>E k\/T k) W (W'.setCell ⟨bx,0,none⟩ v'):=by
 have hcs:ay (λk=>k=bx) W' (W'.setCell ⟨bx,0,none⟩ v'):=(ay.refl (λk=>k=bx) W').setCell (p:=⟨bx,0,none⟩) rfl _;have hs:=hg.aJ.size;refine⟨Nat.le_trans hs hcs.size,λk hk=>?_⟩;rcases hk with hk|hk
 ·obtain⟨h1,h2,h3⟩:=hE k hk;exact(hcs.block k (by omega) h2).trans (hg.aJ.block k h1 h3)
 ·have h1:=hT k hk;exact(hcs.block k (by omega) (λe=>h.nB (e▸hk))).trans (hg.aJ.block k h1 (λe=>h.nR k e hk))
