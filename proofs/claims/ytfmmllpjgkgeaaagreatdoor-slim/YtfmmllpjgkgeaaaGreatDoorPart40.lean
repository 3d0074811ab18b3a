import Derived.Test.YtfmmllpjgkgeaaaGreatDoorPart34
import Derived.Test.YtfmmllpjgkgeaaaGreatDoorPart35
set_option linter.unusedVariables false
set_option linter.unusedSimpArgs false
set_option maxHeartbeats 16000000
set_option maxRecDepth 100000
namespace Go.Proofs.YtfmmllpjgkgeaaaGreatDoor
open Go.RowKit Go.Maps Go.WideMaps

theorem CluF.let {ρ : Nat->Prop} {w w':World} {x:Nat} {S:Nat->Prop} {s:St} {q cap:Nat} {fv:Value} {ds ds':List RepD} {bs:List (Nat × ByteArray)} {D:List Nat} {P:Nat->Hs->Prop} (h:CluF ρ w x S s q cap fv ds bs D P) {i:Int} {Q:RD->RD->Prop} (hL:LetD w.heap.size ds i Q ds') (hC:CluP w' x q cap fv 0 ds' bs)
  (hQ:∀ k (hk:k<ds.length) r',Q ds[k] r'->r'.K=ds[k].K/\r'.C=ds[k].C/\r'.room=ds[k].room/\HistR s.es D k (P k) (curs s ds) (curs s ds k) r'):∃ S',ProgF ρ w' x S' s/\∀ b,S' b->S b\/w.heap.size<=b:=by
 rcases hL with ⟨_,rfl⟩ | ⟨k,hk,r',_,hr,hq,rfl⟩
 ·exact ⟨S,(h.keep hC).prog,fun b hb=>Or.inl hb⟩
 ·obtain ⟨a1,a2,a4,a3⟩:=hQ k hk r' hq
  exact ⟨_,(h.same hk ⟨hr.cut.trans (h.cut k hk).1,by rw[a4];exact (h.cut k hk).2⟩ a1 a2 a3 hC).prog,h.ownR hk hr.r0 (fun g hg=>Or.inl hg)⟩
theorem prog_tick (ρ : Nat->Prop):ProgTick (ProgF ρ):=by
 refine ⟨?_, ?_⟩
 ·rintro w x S s i hG ⟨q,cap,fv,ds,bs,D,P,h⟩
  refine Calls.mono (CCrash_any w hG x q cap fv ds bs h.clu i) ?_
  rintro e w' ⟨ds',rfl,hL,hC,hc⟩
  obtain ⟨S',h1,h2⟩:=h.let hL hC (fun k hk r' hq=>by
   refine ⟨?_, ?_, ?_,(h.hist k hk).crashed hq ?_⟩
   ·obtain ⟨io,co,lo,rfl⟩:=hq;rfl
   ·obtain ⟨io,co,lo,rfl⟩:=hq;rfl
   ·obtain ⟨io,co,lo,rfl⟩:=hq;rfl
   ·rw[curs_at s ds k hk]
    exact (h.size k hk).symm)
  exact ⟨by unfold namedR;rw[h.len],S',h1,h2,h.sc hc⟩
 ·rintro w x S s i hG ⟨q,cap,fv,ds,bs,D,P,h⟩
  refine Calls.mono (CTick_any w hG x q cap fv ds bs h.clu i) ?_
  rintro e w' ⟨ds',rfl,hL,hC,hc⟩
  obtain ⟨S',h1,h2⟩:=h.let hL hC (fun k hk r' hq=>by
   refine ⟨?_, ?_, ?_,(h.hist k hk).ticked hq⟩
   ·obtain ⟨pv,rfl⟩:=hq;rfl
   ·obtain ⟨pv,rfl⟩:=hq;rfl
   ·obtain ⟨pv,rfl⟩:=hq;rfl)
  exact ⟨by unfold namedR;rw[h.len],S',h1,h2,h.sc hc⟩
end Go.Proofs.YtfmmllpjgkgeaaaGreatDoor

