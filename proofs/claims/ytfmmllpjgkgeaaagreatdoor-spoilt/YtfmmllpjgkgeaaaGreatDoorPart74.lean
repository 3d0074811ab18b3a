import Derived.Test.YtfmmllpjgkgeaaaGreatDoorPart47
import Derived.Test.YtfmmllpjgkgeaaaGreatDoorPart48
import Derived.Test.YtfmmllpjgkgeaaaGreatDoorPart73
set_option linter.unusedVariables false
set_option linter.unusedSimpArgs false
namespace Go.Proofs.YtfmmllpjgkgeaaaGreatDoor
open Go.RowKit

theorem frNo_at {s:St} {f:Int} {g:FrD} (h:frNo s f=some g):∃ k:Nat,∃ hk:k<s.fs.length,f=(k:Int)+1/\s.fs[k]=g:=by
 unfold frNo at h
 split at h
 ·rename_i h1
  obtain ⟨hk,e⟩:=List.getElem?_eq_some_iff.1 h
  exact ⟨f.toNat-1,hk,by omega,e⟩
 ·cases h
theorem sealL_pos (l:Thk.Bs):1<=(sealL l).length:=by
 rw[sealL_len];omega
theorem FrTie.seal {n:Nat} {P:Nat->Hs->Prop} {o:Nat->Hs} {b:Nat × ByteArray} {f:FrD} (h:FrTie n P o b f):b.2=f.bytes/\b.1<n/\f.bytes.size<=700000/\∃ l,toL f.bytes=sealL l:=by
 obtain ⟨f1,f2,f3,f4,f5,f6,f7,f8⟩:=h
 refine ⟨f2,by omega,f6, ?_⟩
 by_cases h9:0<f.ack
 ·obtain ⟨t,a1,a2,a3⟩:=f7 h9
  exact ⟨_,a3⟩
 ·obtain ⟨x,S,C,rs,its,a1,a2,a3,a4,a5⟩:=f8 h9
  exact ⟨_,a3⟩
theorem CluF.frAt {w:World} {x:Nat} {S:Nat->Prop} {s:St} {q cap:Nat} {fv:Value} {ds:List RepD} {bs:List (Nat × ByteArray)} {D:List Nat} {P:Nat->Hs->Prop} (h:CluF w x S s q cap fv ds bs D P) {f:Int} {g:FrD} (hf:frNo s f=some g) :
  ∃ k:Nat,∃ hk:k<bs.length,f=(k:Int)+1/\bs[k].2=g.bytes/\bs[k].1<ds.length/\g.bytes.size<=700000/\∃ l,toL g.bytes=sealL l:=by
 obtain ⟨k,hk,rfl,rfl⟩:=frNo_at hf
 have hb:=h.blen
 obtain ⟨e1,e2,e3,e4⟩:=(h.frs k (by omega) hk).seal
 exact ⟨k,by omega,rfl,e1,e2,e3,e4⟩
theorem toL_sz (b:ByteArray):(toL b).length=b.size:=by unfold toL;rw[Array.length_toList];(first | done | rfl)

theorem prog_spoil:ProgSpoil ProgF ProgW:={
 pos:=by
  rintro w x S s f g ⟨q,cap,fv,ds,bs,D,P,h⟩ hf
  obtain ⟨k,hk,_,_,_,e3,l,e4⟩:=h.frAt hf
  refine ⟨?_,e3⟩
  have:=sealL_pos l
  rw[<- e4,toL_sz] at this
  exact this
 bad:=by
  rintro wt w x S s f g b ⟨q,cap,fv,ds,bs,D,P,h,hw⟩ hf hb
  obtain ⟨k,hk,rfl,e1,e2,e3,l,e4⟩:=h.frAt hf
  rw[<- e1] at e3 e4 hb
  have:=CSpoil_of w x q cap fv ds bs h.clu k hk (b / 8) (b % 8) (by rw[toL_sz];omega) (by omega) l e4 e3 e2
  rw[show b / 8*8+b % 8=b by omega] at this
  refine Calls.mono this ?_
  rintro e w' ⟨rfl,hC,hc⟩
  exact ⟨rfl,S,⟨q,cap,fv,ds,bs,D,P,h.keep hC,hw⟩,fun k hk=>Or.inl hk,h.sx hc⟩
 arg:=by
  rintro wt w x S s f g ⟨q,cap,fv,ds,bs,D,P,h,hw⟩ hf
  obtain ⟨k,hk,rfl,e1,e2,e3,l,e4⟩:=h.frAt hf
  rw[<- e1] at e3 ⊢
  have:=CSpoil_arg w x q cap fv ds bs h.clu k hk (8*(bs[k].2.size:Int)) (by omega) (Int.le_refl _) (by omega)
  refine Calls.mono this ?_
  rintro e w' ⟨rfl,hC,hc⟩
  exact ⟨rfl,S,⟨q,cap,fv,ds,bs,D,P,h.keep hC,hw⟩,fun k hk=>Or.inl hk,h.sx hc⟩ }
end Go.Proofs.YtfmmllpjgkgeaaaGreatDoor

