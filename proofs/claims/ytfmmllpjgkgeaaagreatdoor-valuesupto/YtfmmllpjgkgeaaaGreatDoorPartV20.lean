import Derived.Test.YtfmmllpjgkgeaaaGreatDoorPartV14
import Derived.Test.YtfmmllpjgkgeaaaGreatDoorPartV18
set_option linter.unusedVariables false
set_option linter.unusedSimpArgs false
set_option maxHeartbeats 16000000
set_option maxRecDepth 100000
namespace Go.Proofs.YtfmmllpjgkgeaaaGreatDoor
open Go.RowKit Go.Maps Go.WideMaps Go.Shelf

def txtC (c:Thk.Ch):Thk.Bs:=textB ⟨c.path.toArray⟩ c.act (keptVal c.act ⟨c.val.toArray⟩) c.n
def wIt (C:Nat->Option Thk.Ch) (xs:List Itm):List (Nat × Thk.Bs):=xs.map (fun x=>(x.n,match C x.n with | some c=>txtC c | none=>[]))

structure WrV (w0:World) (bx B:Nat) (l:Thk.Bs) (T:Nat->Prop) (W:World) (v:Value):Prop where
 bk:Blk W bx #[v] 93
 row:OutV B W v l
 nB:¬T bx
 nR:∀ g,v.ownBlock=some g->¬T g
 fr:OutF B w0 W
 tnew:∀ k,T k->w0.heap.size<=k
 bnew:w0.heap.size<=bx
theorem WrV.stab {w0:World} {bx B:Nat} {l:Thk.Bs} {T T':Nat->Prop} {W W':World} {v:Value} (h:WrV w0 bx B l T W v) (hc:Chg T W W') (hT:∀ k,T' k->(T k\/W.heap.size<=k)/\k<W'.heap.size):WrV w0 bx B l T' W' v:=by
 have hs:=h.fr.size
 refine ⟨h.bk.chg hc h.nB,ownsRow_chg h.row hc (fun g hg=>h.nR g hg),fun hk=>?_,fun g hg hk=>?_, ?_,fun k hk=>?_,h.bnew⟩
 ·rcases (hT bx hk).1 with h1 | h1
  ·exact h.nB h1
  ·have:=h.bk.lt;omega
 ·rcases (hT g hk).1 with h1 | h1
  ·exact h.nR g hg h1
  ·have:=(h.row.lt g hg).2;omega
 ·have h0:=h.fr
  exact ⟨hc.os.trans h0.os,hc.tape.trans h0.tape,hc.output.trans h0.output,Nat.le_trans hs hc.size,fun k hk hm=>(hc.block k (by omega) (fun e=>by have:=h.tnew k e;omega)).trans (h0.block k hk hm)⟩
 ·rcases (hT k hk).1 with h1 | h1
  ·exact h.tnew k h1
  ·omega
theorem WrV.put {w0:World} {bx B:Nat} {l l':Thk.Bs} {T:Nat->Prop} {W W':World} {v v':Value} (h:WrV w0 bx B l T W v) (hT:∀ k,T k->k<W.heap.size) (hg:OutG v W v' W') (ho:OutV B W' v' l'):WrV w0 bx B l' T (W'.setCell ⟨bx,0,none⟩ v') v':=by
 have hs:=h.fr.size
 have hbl:=h.bk.lt
 have hbk:Blk W' bx #[v] 93:=hg.blk h.row h.bk (by decide)
 have hne:v'.ownBlock≠some bx:=ownsRow_ne ho (fun cur fz e=>by rw[show W'.heap[bx]? = _ from hbk] at e;cases e)
 have hcs:Chg (fun k=>k=bx) W' (W'.setCell ⟨bx,0,none⟩ v'):=(Chg.refl (fun k=>k=bx) W').setCell (p:=⟨bx,0,none⟩) rfl _
 refine ⟨?_,ownsRow_chg ho hcs (fun g hg e=>hne (e ▸ hg)),h.nB,fun g hgv hk=>?_, ?_,h.tnew,h.bnew⟩
 ·unfold Blk at hbk ⊢
  simp[World.setCell,Array.getElem?_modify,hbk]
 ·rcases hg.loc g hgv with h1 | h1
  ·exact h.nR g h1 hk
  ·have:=hT g hk;omega
 ·have h0:=h.fr.trans (hg.outF h.row)
  have hb:=h.bnew
  have hs0:=h0.size
  exact ⟨hcs.os.trans h0.os,hcs.tape.trans h0.tape,hcs.output.trans h0.output,Nat.le_trans hs0 hcs.size,fun k hk hm=>(hcs.block k (by omega) (by omega)).trans (h0.block k hk hm)⟩
theorem WrV.keep {w0:World} {bx B:Nat} {l l':Thk.Bs} {T E:Nat->Prop} {W W':World} {v v':Value} (h:WrV w0 bx B l T W v) (hT:∀ k,T k->k<W.heap.size) (hE:∀ k,E k->k<W.heap.size/\k≠bx/\v.ownBlock≠some k) (hg:OutG v W v' W') (ho:OutV B W' v' l'):KeepT (fun k=>E k\/T k) W (W'.setCell ⟨bx,0,none⟩ v'):=by
 have hcs:Chg (fun k=>k=bx) W' (W'.setCell ⟨bx,0,none⟩ v'):=(Chg.refl (fun k=>k=bx) W').setCell (p:=⟨bx,0,none⟩) rfl _
 have hs:=hg.chg.size
 refine ⟨Nat.le_trans hs hcs.size,fun k hk=>?_⟩
 rcases hk with hk | hk
 ·obtain ⟨h1,h2,h3⟩:=hE k hk
  exact (hcs.block k (by omega) h2).trans (hg.chg.block k h1 h3)
 ·have h1:=hT k hk
  exact (hcs.block k (by omega) (fun e=>h.nB (e ▸ hk))).trans (hg.chg.block k h1 (fun e=>h.nR k e hk))
end Go.Proofs.YtfmmllpjgkgeaaaGreatDoor

