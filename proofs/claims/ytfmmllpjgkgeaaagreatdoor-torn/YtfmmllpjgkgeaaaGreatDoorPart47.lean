import Derived.Test.YtfmmllpjgkgeaaaGreatDoorPart40
import Derived.Test.YtfmmllpjgkgeaaaGreatDoorPart46
set_option linter.unusedVariables false
set_option linter.unusedSimpArgs false
set_option maxHeartbeats 16000000
set_option maxRecDepth 100000
namespace Go.Proofs.YtfmmllpjgkgeaaaGreatDoor
open Go.RowKit
variable {F:Stt}

structure Two (F:Stt) (T:Nat->Prop) (w:World) (x y:Nat) (sx sy:St) (wr:World):Prop where
 f:∃ Sx Sy,F wr x Sx sx/\F wr y Sy sy/\(∀ k,Sx k->w.heap.size<=k/\¬T k/\¬Sy k)/\(∀ k,Sy k->w.heap.size<=k/\¬T k)
 tl:∀ k,T k->k<wr.heap.size
 tb:∀ k,T k->w.heap.size<=k
 bel:Below w.heap.size w wr
 gw:Glob w
section
variable {T:Nat->Prop} {w wr w':World} {x y:Nat} {sx sy:St}
theorem Two.swap (h:Two F T w x y sx sy wr):Two F T w y x sy sx wr:=by
 obtain ⟨Sx,Sy,h1,h2,h3,h4⟩:=h.f
 exact ⟨⟨Sy,Sx,h2,h1,fun k hk=>⟨(h4 k hk).1,(h4 k hk).2,fun e=>(h3 k e).2.2 hk⟩,fun k hk=>⟨(h3 k hk).1,(h3 k hk).2.1⟩⟩,h.tl,h.tb,h.bel,h.gw⟩
theorem Two.one (hP:ProgFrame F) (h:Two F T w x y sx sy wr):∃ Sy:Nat->Prop,KAt F (fun k=>T k\/Sy k) w x sx wr/\(∀ k,T k->¬Sy k)/\∀ sx' w',KAt F (fun k=>T k\/Sy k) w x sx' w'->Chg (fun k=>Mk w.heap.size (fun k=>T k\/Sy k) k\/T k) wr w'->Two F T w x y sx' sy w':=by
 obtain ⟨Sx,Sy,h1,h2,h3,h4⟩:=h.f
 refine ⟨Sy,⟨⟨Sx,h1,fun k hk=>⟨(h3 k hk).1,fun e=>e.elim (h3 k hk).2.1 (h3 k hk).2.2⟩⟩,fun k hk=>hk.elim (h.tl k) (hP.lt h2),h.bel,h.gw⟩,fun k hk e=>(h4 k e).2 hk,fun sx' w' hk hc=>?_⟩
 obtain ⟨S',f1,s1⟩:=hk.f
 have f2:=hP.stable h2 hc (fun k hk e=>by
  rcases e with e | e
  ·exact e.2 (Or.inr hk)
  ·exact (h4 k hk).2 e)
 exact ⟨⟨S',Sy,f1,f2,fun k hk=>⟨(s1 k hk).1,fun e=>(s1 k hk).2 (Or.inl e),fun e=>(s1 k hk).2 (Or.inr e)⟩,h4⟩,fun k hk2=>hk.tl k (Or.inl hk2),h.tb,hk.bel,h.gw⟩
theorem Two.box (hP:ProgFrame F) (h:Two F T w x y sx sy wr) (o:Obj):Two F (fun k=>T k\/k=wr.heap.size) w x y sx sy (wr.alloc o):=by
 obtain ⟨Sx,Sy,h1,h2,h3,h4⟩:=h.f
 have hb:Below wr.heap.size wr (wr.alloc o):=(Below.refl _ _).alloc (Nat.le_refl _) _
 have hs:(wr.alloc o).heap.size=wr.heap.size+1:=by simp
 have l1:∀ k,Sx k->k<wr.heap.size:=fun k hk=>hP.lt h1 hk
 have l2:∀ k,Sy k->k<wr.heap.size:=fun k hk=>hP.lt h2 hk
 refine ⟨⟨Sx,Sy,hP.below h1 hb,hP.below h2 hb,fun k hk=>⟨(h3 k hk).1,fun e=>e.elim (h3 k hk).2.1 (fun e=>by have:=l1 k hk;omega),(h3 k hk).2.2⟩,fun k hk=>⟨(h4 k hk).1,fun e=>e.elim (h4 k hk).2 (fun e=>by have:=l2 k hk;omega)⟩⟩,fun k hk=>?_,fun k hk=>?_,h.bel.trans (hb.mono h.bel.size),h.gw⟩
 ·rcases hk with hk | rfl
  ·have:=h.tl k hk;omega
  ·omega
 ·rcases hk with hk | rfl
  ·exact h.tb k hk
  ·exact h.bel.size
theorem Two.less {T':Nat->Prop} (h:Two F T w x y sx sy wr) (hT:∀ k,T' k->T k):Two F T' w x y sx sy wr:=by
 obtain ⟨Sx,Sy,h1,h2,h3,h4⟩:=h.f
 exact ⟨⟨Sx,Sy,h1,h2,fun k hk=>⟨(h3 k hk).1,fun e=>(h3 k hk).2.1 (hT k e),(h3 k hk).2.2⟩,fun k hk=>⟨(h4 k hk).1,fun e=>(h4 k hk).2 (hT k e)⟩⟩,fun k hk=>h.tl k (hT k hk),fun k hk=>h.tb k (hT k hk),h.bel,h.gw⟩
theorem Two.play (hF:ProgOK F) (hP:ProgFrame F) (hT:ProgTick F) (h:Two F T w x y sx sy wr) {tb n c:Nat} (ht:TalAt wr tb sx.fs.length sx.es.length) (hTt:T tb) (hK:KOk n c sx) (hc:c<=400) {a:ActD} (ha:a.ok) :
  Calls Tryz.prog 19 #[.pointer (some ⟨tb,0,none⟩),.pointer (some ⟨x,0,none⟩),.int .i64 (n:Int),a.val] wr fun e w'=>e=.returned (.bool true)/\∃ sx',PlayTo n sx a sx'/\Two F T w x y sx' sy w'/\TalAt w' tb sx'.fs.length sx'.es.length/\Chg (fun k=>k=tb\/¬T k) wr w':=by
 obtain ⟨Sy,hk,hts,hback⟩:=h.one hP
 have hev:=hK.ev
 refine Calls.mono (play_any hF hP hT (fun k=>T k\/Sy k) w wr x tb n c sx.es.length a sx hK hc (by omega) ha hk ht (Or.inl hTt) (h.tb _ hTt)) ?_
 rintro e w' ⟨rfl,s',hp,hk2,ht2,hch⟩
 refine ⟨rfl,s',hp,hback _ _ hk2 (chg_wide hch (fun k hk=>hk.elim Or.inl (fun e=>Or.inr (by rw[e];exact hTt)))),by rw[hp.evs hK hc];exact ht2,chg_wide hch (fun k hk=>?_)⟩
 rcases hk with hk | hk
 ·exact Or.inr (fun e=>hk.2 (Or.inl e))
 ·exact Or.inl hk
end
theorem Two.make (hP:ProgFrame F) {w w1 w2:World} {x y:Nat} {sx sy:St} (h:KAt F (fun _=>False) w x sx w1) (h2:KAt F (fun _=>False) w1 y sy w2):Two F (fun _=>False) w x y sx sy w2:=by
 obtain ⟨Sx,f1,s1⟩:=h.f
 obtain ⟨Sy,f2,s2⟩:=h2.f
 refine ⟨⟨Sx,Sy,hP.below f1 h2.bel,f2,fun k hk=>⟨(s1 k hk).1,fun e=>e,fun e=>?_⟩,fun k hk=>⟨Nat.le_trans h.bel.size (s2 k hk).1,fun e=>e⟩⟩,fun k hk=>hk.elim,fun k hk=>hk.elim,h.bel.trans (h2.bel.mono h.bel.size),h.gw⟩
 have:=hP.lt f1 hk
 have:=(s2 k e).1
 omega

section
variable {T:Nat->Prop} {w wr:World} {x y ta tb n i:Nat} {sx sy sx':St}
end
end Go.Proofs.YtfmmllpjgkgeaaaGreatDoor

