import Derived.Test.YtfmmllpjgkgeaaaGreatDoorPartV32
set_option linter.unusedVariables false
set_option linter.unusedSimpArgs false
set_option maxHeartbeats 16000000
set_option maxRecDepth 100000
namespace Go.Proofs.YtfmmllpjgkgeaaaGreatDoor
open Go.RowKit

structure Hs where
 kn:List Bool
 K:Nat->Nat
 C:Nat->Option Thk.Ch
section
variable {es:List Ev} {D:List Nat} {n:Nat} {k1 k2:List Bool} {K1 K2:Nat->Nat} {C1 C2:Nat->Option Thk.Ch}
theorem Kn.alv (h:Kn es D k1 K1 C1) (hE:EvD es D n) {d:Nat} (hc:C1 d≠none):d∈D/\1<=nth d/\fst K1 d:=by
 obtain ⟨i,e,h1,h2,_⟩:=h.sup hc
 have hm:=List.mem_of_getElem? h1
 exact ⟨hm,(hE.ok d hm).2.1,(h.vec i d h1).1 ((alive_iff es k1 i).1 h2).2.1⟩
theorem Kn.stoB (h:Kn es D k1 K1 C1) (hE:EvD es D n) (hn:n<=6) (he:es.length<=500) (hs:∀ e∈es,∃ t,Thk.read t=.inr (chOf e)):StoB (fst K1) C1:=by
 refine ⟨fun ns hnd hm=>?_,fun k hk=>?_,h.chs hs,fun k c hc=>?_⟩
 ·have:=nodup_le hnd (m:=D) (fun d hd=>h.mem (hm d hd).1 (hm d hd).2)
  rw[hE.len] at this
  omega
 ·have h1:=h.alv hE hk
  have h2:=hE.ok k h1.1
  exact ⟨⟨by omega,h2.2.1,by omega⟩,h1.2.2⟩
 ·obtain ⟨heff,t,ht⟩:=h.ch hs hc
  have:=(txt_read ht heff).1
  exact ⟨by rw[this];exact ht,heff⟩
end
end Go.Proofs.YtfmmllpjgkgeaaaGreatDoor

