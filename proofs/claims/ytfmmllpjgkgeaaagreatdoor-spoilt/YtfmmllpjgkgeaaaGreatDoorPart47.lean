import Derived.Test.YtfmmllpjgkgeaaaGreatDoorPart45
import Derived.Test.YtfmmllpjgkgeaaaGreatDoorPart46
set_option linter.unusedVariables false
set_option linter.unusedSimpArgs false
namespace Go.Proofs.YtfmmllpjgkgeaaaGreatDoor
open Go.RowKit

theorem prog_wait:ProgWait ProgF ProgW:={
 inn:=by
  rintro w x S s ⟨q,cap,fv,ds,bs,D,P,h⟩
  exact ⟨_,q,cap,fv,ds,bs,D,P,h,rfl⟩
 see:=fun wt=>{
  asks:=by
   rintro w x S s i t hG ⟨q,cap,fv,ds,bs,D,P,h,hw⟩ hs
   refine Calls.mono (h.asks hG i t hs) ?_
   rintro e w' ⟨u,rfl,hu,hC,hc⟩
   exact ⟨u,rfl,hu,S,⟨q,cap,fv,ds,bs,D,P,h.keep hC,hw⟩,fun k hk=>Or.inl hk,h.sx hc⟩
  knows:=by
   rintro w x S s i hG ⟨q,cap,fv,ds,bs,D,P,h,hw⟩
   refine Calls.mono (h.knows i) ?_
   rintro e w' ⟨rfl,hC,hc⟩
   exact ⟨rfl,S,⟨q,cap,fv,ds,bs,D,P,h.keep hC,hw⟩,fun k hk=>Or.inl hk,h.sx hc⟩ }
 frm:=prog_frameW
 bnd:=by
  rintro wt w x S s ⟨q,cap,fv,ds,bs,D,P,h,rfl⟩ k
  unfold waits
  rw[List.getD_eq_getElem?_getD,List.getElem?_map]
  by_cases hk:k<ds.length
  ·rw[List.getElem?_eq_getElem hk]
   have h1:=(h.clu.rep k hk).kept.len
   have h2:=(h.clu.rep k hk).kept.r50
   show ds[k].ps.length<=100
   omega
  ·rw[List.getElem?_eq_none (by omega)];exact Nat.zero_le _
 waiting:=by
  rintro wt w x S s i ⟨q,cap,fv,ds,bs,D,P,h,rfl⟩ hi
  refine Calls.mono (CWaiting_any w x q cap fv ds bs h.clu (i:Int)) ?_
  rintro e w' ⟨rfl,hC,hc⟩
  have hi':i<ds.length:=by rw[<- h.len];exact hi
  refine ⟨?_,S,⟨q,cap,fv,ds,bs,D,P,h.keep hC,rfl⟩,fun k hk=>Or.inl hk,h.sx hc⟩
  unfold waitD waits
  rw[if_pos ⟨by omega,by omega⟩]
  simp[hi']
 dels:=by
  rintro wt w x S s f hG ⟨q,cap,fv,ds,bs,D,P,h,rfl⟩
  refine Calls.mono (h.dels hG f) ?_
  rintro e w' ⟨rfl,S',s',fv',ds',bs',P',h1,h2,hw,h3,h4⟩
  exact ⟨rfl,S',s',h1,fun hk=>⟨q,cap,fv',ds',bs',D,P',h2,hw hk⟩,h3,h4⟩ }
end Go.Proofs.YtfmmllpjgkgeaaaGreatDoor

