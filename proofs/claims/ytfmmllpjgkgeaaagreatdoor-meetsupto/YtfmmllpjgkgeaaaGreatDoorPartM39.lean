import Derived.Test.YtfmmllpjgkgeaaaGreatDoorPartM38
set_option linter.unusedVariables false
set_option linter.unusedSimpArgs false
set_option maxHeartbeats 16000000
set_option maxRecDepth 100000
namespace Go.Proofs.YtfmmllpjgkgeaaaGreatDoor
open Go.RowKit Go.Maps Go.WideMaps
variable{bs:List (Nat×ByteArray)}{D:List Nat}{ds:List dK}{cap q x:Nat}{P:Nat->Hs->Prop}{S:Nat->Prop}{s:St}{fv:Value}{w:World}
theorem Thk.RQ(l:Thk.Bs)(c:Thk.Ch)(h:Thk.read l=.inr c):Thk.fits (Thk.kindOf c.path) c.act=true:=by
 unfold Thk.read at h;split at h
 ·cases h
 ·unfold Thk.iq at h;split at h
  ·cases h
  ·split at h
   ·cases h
   ·rename_i h3;have e:=ql h;rw[e];simpa using h3
theorem XC{e:Ev}{t:Thk.Bs}(h:Thk.read t=.inr (mY e)):G7 e:=by obtain⟨p1,p2,p3,p4,_⟩:=Thk.xG _ _ h;have hf:=Thk.RQ _ _ h;unfold mY at p1 p2 p3 p4 hf;simp only at p1 p2 p3 p4 hf;exact⟨hf,by rw[<- aB];omega,by rw[<- aB];omega,by omega,by omega⟩
def jv(s:St)(ds:List dK)(j:Nat):Hs:=⟨s.kn.getD j [],(ds[j]?.map RD.K).getD (λ_=>0),(ds[j]?.map RD.C).getD (λ_=>none)⟩
theorem Eo(s:St)(ds:List dK)(j:Nat)(h:j<ds.length):jv s ds j=⟨s.kn.getD j [],ds[j].K,ds[j].C⟩:=by unfold jv;simp[h]
def uK(n:Nat)(P:Nat->Hs->Prop)(o:Nat->Hs)(b:Nat×ByteArray)(f:oZ):Prop :=
 b.1=f.dst/\b.2=f.bytes/\f.dst<n/\f.src<n/\f.src≠f.dst/\f.bytes.size<=700000 /\
 (0<f.ack->∃t,P f.dst t/\t.le (o f.src)/\ah f.bytes=dD (jC f.src (cnt t.kn))) /\
 (¬0<f.ack->∃h S C rs its,P f.src h/\h.kn=f.known/\ah f.bytes=dD (jD f.src (cnt h.kn) rs its)/\jE S C rs its/\Brings ⟨λd=>1<=nth d/\S d,C⟩ h.lY (o f.dst).lY)
theorem uK.imp{n:Nat}{P':Nat->Hs->Prop}{o o':Nat->Hs}{b:Nat×ByteArray}{f:oZ}(h:uK n P o b f)(hP:∀j x,P j x->P' j x)(ho:∀j,(o j).lY.le (o' j).lY/\(o j).le (o' j)):uK n P' o' b f:=by
 obtain⟨f1,f2,f3,f4,f5,f6,f7,f8⟩:=h;refine⟨f1,f2,f3,f4,f5,f6,λh9=>?_,λh9=>?_⟩
 ·obtain⟨t,a1,a2,a3⟩:=f7 h9;exact⟨t,hP _ _ a1,a2.trans (ho _).2,a3⟩
 ·obtain⟨x,S,C,rs,its,a1,a2,a3,a4,a5⟩:=f8 h9;exact⟨x,S,C,rs,its,hP _ _ a1,a2,a3,a4,a5.later (ho _).1⟩
structure dR(w:World)(x:Nat)(S:Nat->Prop)(s:St)(q cap:Nat)(fv:Value)(ds:List dK)(bs:List (Nat×ByteArray))(D:List Nat)(P:Nat->Hs->Prop):Prop where
 qY:aQ w x q cap fv 0 ds bs
 own:∀k,S k↔k=x\/k=q\/fv.ownBlock=some k\/∃j,∃h:j<ds.length,ds[j].own k
 len:s.kn.length=ds.length
 wP:zO s.es D ds.length
 hist:∀j(h:j<ds.length),kK s.es D j (P j) (jv s ds) (jv s ds j) ds[j]
 mine:∀j(h:j<ds.length)d,d∈D->who d=j->nth d<=ds[j].K j
 sum:jM ds ds.length=s.es.length
 vW:s.es.length<=500
 src:∀e∈s.es,∃t,Thk.read t=.inr (mY e)
 tq:bs.length=s.fs.length
 Tn:∀j(h:j<bs.length)(h':j<s.fs.length),uK ds.length P (jv s ds) bs[j] s.fs[j]
def waits(ds:List dK):List Nat:=ds.map λd=>d.ps.length
def Aa(w:World)(x:Nat)(S:Nat->Prop)(s:St):Prop:=∃q cap fv ds bs D P,dR w x S s q cap fv ds bs D P
section
variable{w w':World}{x:Nat}{S:Nat->Prop}{s:St}{q cap:Nat}{fv:Value}{ds:List dK}{bs:List (Nat×ByteArray)}{D:List Nat}{P:Nat->Hs->Prop}
theorem dR.tie(h:dR w x S s q cap fv ds bs D P)(j:Nat)(hj:j<ds.length):Kn s.es D (s.kn.getD j []) ds[j].K ds[j].C:=by have:=(h.hist j hj).ok _ (h.hist j hj).now;rw[Eo s ds j hj]at this;exact this
theorem dR.size(h:dR w x S s q cap fv ds bs D P)(j:Nat)(hj:j<ds.length):cnt (s.kn.getD j [])=aV ds[j].K:=(h.tie j hj).size h.wP h.qY.len (h.qY.rep j hj).xw
theorem LH(l:List Bool):cnt l<=l.length:=by unfold cnt;exact List.length_filter_le _ _
theorem dR.aJ{M:Nat->Prop}(h:dR w x S s q cap fv ds bs D P)(hc:ay M w w')(hm:∀k,S k->¬M k):dR w' x S s q cap fv ds bs D P :=
 ⟨h.qY.aJ hc (hm x ((h.own x).2 (Or.inl rfl))) (hm q ((h.own q).2 (Or.inr (Or.inl rfl)))) (λj hj k hk=>hm k ((h.own k).2 (Or.inr (Or.inr (Or.inr ⟨j,hj,hk⟩))))) (λg hg=>hm g ((h.own g).2 (Or.inr (Or.inr (Or.inl hg))))),h.own,h.len,h.wP,h.hist,h.mine,h.sum,h.vW,h.src,h.tq,h.Tn⟩
theorem dR.tags(h:dR w x S s q cap fv ds bs D P){k:Nat}(hk:S k){t:TypeId}(ht:Tagged w k t):¬isRef t/\t≠4/\t≠159/\t≠63/\t≠116:=by
 have key:t=79\/t=81\/t=109\/t=125\/t=220\/t=222\/t=229:=by
  rcases(h.own k).1 hk with rfl|rfl|hk|⟨j,hj,ho⟩
  ·exact Or.inl (Ls h.qY.blk ht)
  ·obtain⟨cs,r1,_⟩:=h.qY.row;exact Or.inr (Or.inl (Ls r1 ht))
  ·exact Or.inr (Or.inr (Or.inl (o7 ht (h.qY.VB k hk))))
  ·exact Or.inr (Or.inr (Or.inr (h.qY.Rw j hj ho ht)))
 unfold isRef;rcases key with rfl|rfl|rfl|rfl|rfl|rfl|rfl<;>decide
theorem dR.lt(h:dR w x S s q cap fv ds bs D P){k:Nat}(hk:S k):k<w.heap.size:=by
 rcases(h.own k).1 hk with rfl|rfl|hk|⟨j,hj,ho⟩
 ·exact h.qY.blk.lt
 ·obtain⟨cs,r1,_⟩:=h.qY.row;exact r1.lt
 ·exact(h.qY.VB k hk).lt
 ·exact(h.qY.rep j hj).lt ho
end
theorem Kr:aG Aa:={
 stable:=by rintro M w w' x S s⟨q,cap,fv,ds,bs,D,P,h⟩ hc hm;exact⟨q,cap,fv,ds,bs,D,P,h.aJ hc hm⟩
 tags:=by rintro w x S s k t⟨q,cap,fv,ds,bs,D,P,h⟩ hk ht;exact h.tags hk ht
 lt:=by rintro w x S s k⟨q,cap,fv,ds,bs,D,P,h⟩ hk;exact h.lt hk }
theorem RU(ds:List dK)(k:Nat)(hk:k<ds.length)(d:dK)(j:Nat):zI (ds.set k d) j=if j=k then d.K k else zI ds j:=by
 unfold zI;rw[List.getElem?_set];by_cases e:k=j
 ·subst e;simp[hk]
 ·rw[if_neg e,if_neg (λh=>e h.symm)]
theorem uM(ds:List dK)(k:Nat)(hk:k<ds.length)(d:dK):∀m,jM (ds.set k d) m+(if k<m then ds[k].K k else 0)=jM ds m+(if k<m then d.K k else 0)
 | 0=>by simp[jM]
 | m+1=>by
  have ih:=uM ds k hk d m;rw[jM,jM,RU ds k hk];by_cases e:m=k
  ·subst e;rw[if_pos rfl,if_pos (by omega),if_pos (by omega)];rw[if_neg (by omega),if_neg (by omega)]at ih;rw[Lp ds m hk];omega
  ·rw[if_neg e];by_cases h2:k<m
   ·rw[if_pos h2,if_pos h2]at ih;rw[if_pos (by omega),if_pos (by omega)];omega
   ·rw[if_neg h2,if_neg h2]at ih;rw[if_neg (by omega),if_neg (by omega)];omega
theorem Hy(kn:List (List Bool))(k:Nat)(hk:k<kn.length)(a:List Bool)(j:Nat):(kn.set k a).getD j []=if k=j then a else kn.getD j []:=by
 rw[List.getD_eq_getElem?_getD,List.getElem?_set];by_cases e:k=j
 ·subst e;simp[hk]
 ·rw[if_neg e,if_neg e,List.getD_eq_getElem?_getD]
section
variable{w w':World}{x:Nat}{S:Nat->Prop}{s:St}{q cap:Nat}{fv:Value}{ds:List dK}{bs:List (Nat×ByteArray)}{D:List Nat}{P:Nat->Hs->Prop}
theorem dR.keep(h:dR w x S s q cap fv ds bs D P)(hc:aQ w' x q cap fv 0 ds bs):dR w' x S s q cap fv ds bs D P:=⟨hc,h.own,h.len,h.wP,h.hist,h.mine,h.sum,h.vW,h.src,h.tq,h.Tn⟩
theorem dR.rE(h:dR w x S s q cap fv ds bs D P):Aa w x S s:=⟨q,cap,fv,ds,bs,D,P,h⟩
theorem dR.sx(h:dR w x S s q cap fv ds bs D P)(hc:ay (λk=>k=x) w w'):ay S w w':=hc.wide (λk e=>(h.own k).2 (Or.inl e))
theorem dR.sc(h:dR w x S s q cap fv ds bs D P)(hc:ay (sW x ds) w w'):ay S w w':=hc.wide (λk e=>(h.own k).2 (by
 rcases e with e|e
 ·exact Or.inl e
 ·exact Or.inr (Or.inr (Or.inr e))))
def Kt(x q:Nat)(fv:Value)(ds:List dK)(b:Nat):Prop:=b=x\/b=q\/fv.ownBlock=some b\/∃j,∃h:j<ds.length,ds[j].own b
theorem dR.XD(h:dR w x S s q cap fv ds bs D P){fJ:Value}{k:Nat}(hk:k<ds.length){r':RD}(hr:sV w.heap.size ds[k] r')(hn:∀g,fJ.ownBlock=some g->fv.ownBlock=some g\/w.heap.size<=g):∀b,Kt x q fJ (ds.set k r') b->S b\/w.heap.size<=b:=by
 intro b hb;rcases hb with rfl|rfl|hb|⟨j,hj,ho⟩
 ·exact Or.inl ((h.own _).2 (Or.inl rfl))
 ·exact Or.inl ((h.own _).2 (Or.inr (Or.inl rfl)))
 ·exact(hn b hb).imp (λh9=>(h.own _).2 (Or.inr (Or.inr (Or.inl h9)))) id
 ·have hj':j<ds.length:=by simpa using hj
  rw[List.getElem_set]at ho;by_cases e9:k=j
  ·rw[if_pos e9]at ho;exact(hr.own b ho).imp (λh9=>(h.own _).2 (Or.inr (Or.inr (Or.inr ⟨k,hk,h9⟩)))) id
  ·rw[if_neg e9]at ho;exact Or.inl ((h.own _).2 (Or.inr (Or.inr (Or.inr ⟨j,hj',ho⟩))))
theorem dR.zI(h:dR w x S s q cap fv ds bs D P){fJ:Value}(hn:∀g,fJ.ownBlock=some g->fv.ownBlock=some g\/w.heap.size<=g):∀b,Kt x q fJ ds b->S b\/w.heap.size<=b:=by
 intro b hb;rcases hb with rfl|rfl|hb|hb
 ·exact Or.inl ((h.own _).2 (Or.inl rfl))
 ·exact Or.inl ((h.own _).2 (Or.inr (Or.inl rfl)))
 ·exact(hn b hb).imp (λh9=>(h.own _).2 (Or.inr (Or.inr (Or.inl h9)))) id
 ·exact Or.inl ((h.own _).2 (Or.inr (Or.inr (Or.inr hb))))
theorem RV(s:St)(ds:List dK){k:Nat}(hk:k<ds.length)(hl:s.kn.length=ds.length)(es':List Ev)(Ox:List Bool)(fs':List oZ)(r':RD)(j:Nat):jv ⟨es',s.kn.set k Ox,fs'⟩ (ds.set k r') j=if k=j then⟨Ox,r'.K,r'.C⟩else jv s ds j:=by
 unfold jv;show Hs.mk ((s.kn.set k Ox).getD j []) _ _=_;rw[Hy _ _ (by rw[hl];exact hk),List.getElem?_set];by_cases e:k=j
 ·subst e;simp[hk]
 ·rw[if_neg e,if_neg e,if_neg e]
theorem Oy(s:St)(ds:List dK){k:Nat}(hk:k<ds.length){r':RD}(hK:r'.K=ds[k].K)(hC:r'.C=ds[k].C):jv s (ds.set k r')=jv s ds:=by
 funext j;unfold jv;rw[List.getElem?_set];by_cases e:k=j
 ·subst e;simp[hk,hK,hC]
 ·rw[if_neg e]
theorem dR.same(h:dR w x S s q cap fv ds bs D P){k:Nat}(hk:k<ds.length){r':RD}(hK:r'.K=ds[k].K)(hC:r'.C=ds[k].C)(hH:kK s.es D k (P k) (jv s ds) (jv s ds k) r')(hc:aQ w' x q cap fv 0 (ds.set k r') bs):dR w' x (Kt x q fv (ds.set k r')) s q cap fv (ds.set k r') bs D P:=by
 have ec:=Oy s ds hk hK hC;refine⟨hc,λb=>Iff.rfl,by simp[h.len],by rw[List.length_set];exact h.wP,λj hj=>?_,λj hj d hd hw=>?_, ?_,h.vW,h.src,h.tq,λj h1 h2=>?_⟩
 ·have hj':j<ds.length:=by simpa using hj
  rw[ec,List.getElem_set];by_cases e9:k=j
  ·subst e9;rw[if_pos rfl];exact hH
  ·rw[if_neg e9];exact h.hist j hj'
 ·have hj':j<ds.length:=by simpa using hj
  rw[List.getElem_set];by_cases e9:k=j
  ·subst e9;rw[if_pos rfl,hK];exact h.mine k hk d hd hw
  ·rw[if_neg e9];exact h.mine j hj' d hd hw
 ·have h1:=uM ds k hk r' ds.length;rw[if_pos hk,if_pos hk,hK]at h1;have:=h.sum;rw[List.length_set];omega
 ·rw[List.length_set,ec];exact h.Tn j h1 h2
theorem xP{α : Type}(l:List α)(a:α)(j:Nat)(h:j<(l++[a]).length):(∃h':j<l.length,(l++[a])[j]=l[j])\/(j=l.length/\(l++[a])[j]=a):=by
 by_cases hj:j<l.length
 ·exact Or.inl ⟨hj,List.getElem_append_left hj⟩
 ·have hje:j=l.length:=by simp at h;omega
  exact Or.inr ⟨hje,by rw[List.getElem_append_right (by omega)];simp⟩
theorem dR.RX(h:dR w x S s q cap fv ds bs D P){fJ:Value}{b:Nat×ByteArray}{f:oZ}(hc:aQ w' x q cap fJ 0 ds (bs++[b]))(hf:uK ds.length P (jv s ds) b f):dR w' x (Kt x q fJ ds) ⟨s.es,s.kn,s.fs++[f]⟩ q cap fJ ds (bs++[b]) D P:=by
 refine⟨hc,λb=>Iff.rfl,h.len,h.wP,h.hist,h.mine,h.sum,h.vW,h.src,by simp[h.tq],λj h1 h2=>?_⟩;have hbl:=h.tq;rcases xP bs b j h1 with⟨a1,a2⟩|⟨a1,a2⟩<;>rcases xP s.fs f j h2 with⟨b1,b2⟩|⟨b1,b2⟩
 ·rw[a2];show uK _ _ _ _ ((s.fs++[f])[j]);rw[b2];exact h.Tn j a1 b1
 ·omega
 ·omega
 ·rw[a2];show uK _ _ _ _ ((s.fs++[f])[j]);rw[b2];exact hf
theorem dR.learnt(h:dR w x S s q cap fv ds bs D P){k:Nat}(hk:k<ds.length){r':RD}{Ox:List Bool}{es':List Ev}{D':List Nat}{Pk:Hs->Prop}{fJ:Value}{bs':List (Nat×ByteArray)}{fs':List oZ}(hE:zO es' D' ds.length)(hmono:∀y:Hs,y.Ok s.es D->y.Ok es' D')(hle:(jv s ds k).le ⟨Ox,r'.K,r'.C⟩)(hH:kK es' D' k Pk (jv s ds) ⟨Ox,r'.K,r'.C⟩ r')(hP:∀y,P k y->Pk y)(hm:∀j(hj:j<ds.length)d,d∈D'->who d=j->nth d<=(if k=j then r' else ds[j]).K j)(hs:jM (ds.set k r') ds.length=es'.length)(h5:es'.length<=500)(hsr:∀e∈es',∃t,Thk.read t=.inr (mY e))(hbl:bs'.length=fs'.length)(hfr:∀j(h1:j<bs'.length)(h2:j<fs'.length),(∃(a:j<bs.length)(b:j<s.fs.length),bs'[j]=bs[j]/\fs'[j]=s.fs[j])\/uK ds.length (λj y=>if k=j then Pk y else P j y) (λj=>if k=j then⟨Ox,r'.K,r'.C⟩else jv s ds j) bs'[j] fs'[j])(hc:aQ w' x q cap fJ 0 (ds.set k r') bs'):dR w' x (Kt x q fJ (ds.set k r')) ⟨es',s.kn.set k Ox,fs'⟩ q cap fJ (ds.set k r') bs' D' (λj y=>if k=j then Pk y else P j y):=by
 have ec:=RV s ds hk h.len es' Ox fs' r';have ho:∀j,(jv s ds j).lY.le ((if k=j then(⟨Ox,r'.K,r'.C⟩:Hs)else jv s ds j)).lY/\(jv s ds j).le (if k=j then(⟨Ox,r'.K,r'.C⟩:Hs)else jv s ds j):=λj=>by
  by_cases e:k=j
  ·subst e;rw[if_pos rfl];exact⟨Hs.sle (hmono _ ((h.hist k hk).ok _ (h.hist k hk).now)) (hH.ok _ hH.now) hE hle,hle⟩
  ·rw[if_neg e];exact⟨qX.le.refl _,Hs.le.refl _⟩
 have hcf:jv ⟨es',s.kn.set k Ox,fs'⟩ (ds.set k r')=λj=>if k=j then(⟨Ox,r'.K,r'.C⟩:Hs)else jv s ds j:=funext ec
 refine⟨hc,λb=>Iff.rfl,by simp[h.len],by rw[List.length_set];exact hE,λj hj=>?_,λj hj d hd hw=>?_,by rw[List.length_set];exact hs,h5,hsr,hbl,λj h1 h2=>?_⟩
 ·have hj':j<ds.length:=by simpa using hj
  rw[hcf,List.getElem_set];by_cases e9:k=j
  ·subst e9;simp only[if_pos];exact hH.step (λy _ hy=>hy) ho
  ·simp only[if_neg e9];exact(h.hist j hj').step (λy _ hy=>hmono y hy) ho
 ·have hj':j<ds.length:=by simpa using hj
  have:=hm j hj' d hd hw;rw[List.getElem_set];exact this
 ·rw[List.length_set,hcf];rcases hfr j h1 h2 with⟨a,b,e1,e2⟩|h3
  ·rw[e1];show uK _ _ _ _ (fs'[j]);rw[e2];exact(h.Tn j a b).imp (λj y hy=>by
    by_cases e:k=j
    ·subst e;rw[if_pos rfl];exact hP y hy
    ·rw[if_neg e];exact hy) ho
  ·exact h3
end
section
variable{es:List Ev}{D:List Nat}{n:Nat}{k1 k2:List Bool}{K1 K2:Nat->Nat}{C1 C2:Nat->Option Thk.Ch}
theorem Oz(h1:Kn es D k1 K1 C1)(h2:Kn es D k2 K2 C2)(hle:∀j,k1.getD j false=true->k2.getD j false=true){r:RD}(hK:r.K=K1)(hC:r.C=C1)(hnw:∃d,1<=nth d/\fD r K2 C2 d):cnt k1<cnt k2:=by refine Classical.byContradiction λhn=>?_;have hpt:=(uU k1 k2 es.length hle h1.len h2.len).2 hn;obtain⟨hC2,hK2⟩:=h1.uniq h2 (λj=>(hpt j).symm);obtain⟨d,hd,hf,hne⟩:=hnw;subst hK hC;exact hne ⟨(hK2 d hd).2 hf,by rw[hC2]⟩
theorem RY(h1:Kn es D k1 K1 C1)(h2:Kn es D k2 K2 C2)(hE:zO es D n){r:RD}(hK:r.K=K1)(hnw:∀d,1<=nth d->¬fD r K2 C2 d):∀j,k2.getD j false=true->k1.getD j false=true:=by
 intro j hj;subst hK;have hjl:j<D.length:=by rw[hE.len];refine Classical.byContradiction λhn=>?_;have:=h2.len;rw[iQ (by omega)]at hj;cases hj
 have hj':D[j]?=some D[j]:=List.getElem?_eq_getElem hjl;have hf:=(h2.vec j _ hj').1 hj;refine(h1.vec j _ hj').2 (Classical.byContradiction λhno=>?_);exact hnw D[j] (hE.ok _ (List.getElem_mem hjl)).2.1 ⟨hf,λe=>hno e.1⟩
theorem UW{a b c o:Hs}(ha:a.Ok es D)(hb:b.Ok es D)(hE:zO es D n)(hc:c.K=jr b.K a.K/\c.C=iO b.K b.C a.K a.C)(ho:a.lY.le o.lY):vV b c o:=by
 intro d hd hnw;have hj:qX.join a.lY b.lY c.lY:=by have:=Kn.VE hb ha hE;unfold Hs.lY;rw[hc.1,hc.2];exact this
 obtain⟨j1,j2,j3⟩:=hj;obtain⟨hf,hne⟩:=hnw;by_cases hcc:c.C d=none
 ·rcases(j2 d).1 ⟨⟨hd,hf⟩,hcc⟩with h4|h4
  ·exact⟨ho.s d h4.1,λ_=>ho.g d h4⟩
  ·exact absurd ⟨h4.1.2,⟨λ_=>h4.2,λ_=>hcc⟩⟩ hne
 ·refine⟨?_,λh=>absurd h hcc⟩;rcases(j1 d).1 ⟨hd,hf⟩with h4|h4
  ·exact ho.s d h4
  ·refine absurd ⟨h4.2,⟨λh=>absurd h hcc,λh=>?_⟩⟩ hne;exact((j2 d).2 (Or.inr ⟨h4,h⟩)).2
end
theorem jS(a b:List Bool):(∀j,a.getD j false=true->(bY a b).getD j false=true)/\∀j,b.getD j false=true->(bY a b).getD j false=true:=⟨λj h=>by rw[dZ,h];rfl,λj h=>by rw[dZ,h];simp⟩
section
variable{w w':World}{x:Nat}{S:Nat->Prop}{s:St}{q cap:Nat}{fv:Value}{ds:List dK}{bs:List (Nat×ByteArray)}{D:List Nat}{P:Nat->Hs->Prop}
theorem dR.doB(h:dR w x S s q cap fv ds bs D P){t:Thk.Bs}{c:Thk.Ch}(hr:Thk.read t=.inr c){k:Nat}(hk:k<ds.length)(hl:s.es.length<500):dV k (ds[k].K k+1) ∉ D/\ds[k].K k+1<=500/\kR (fst (inc ds[k].K k)) (gK ds[k].C c (dV k (ds[k].K k+1))) /\ ∀e:Ev,mY e=c->zO (s.es++[e]) (D++[dV k (ds[k].K k+1)]) ds.length:=by
 have hkt:=h.tie k hk;have hKe:=hkt.dle h.wP k;have hK5:ds[k].K k+1<=500:=by omega
 have hwd:who (dV k (ds[k].K k+1))=k:=eF (by omega);have hnd:nth (dV k (ds[k].K k+1))=ds[k].K k+1:=dw (by omega);have hnew:dV k (ds[k].K k+1) ∉ D:=λhm=>by have:=h.mine k hk _ hm hwd;rw[hnd]at this;omega
 have hev:∀e:Ev,mY e=c->zO (s.es++[e]) (D++[dV k (ds[k].K k+1)]) ds.length:=λe _=>by
  refine⟨by simp[h.wP.len], ?_,λd hd=>?_⟩
  ·rw[List.nodup_append];exact⟨h.wP.nd,by simp,λa ha b hb e9=>by simp at hb;subst hb;subst e9;exact hnew ha⟩
  ·rcases List.mem_append.1 hd with h1|h1
   ·exact h.wP.ok d h1
   ·simp at h1;subst h1;rw[hwd,hnd];exact⟨hk,by omega,by omega⟩
 refine⟨hnew,hK5, ?_,hev⟩;have hch:mY ⟨⟨c.path.toArray⟩,c.act,⟨c.val.toArray⟩,c.n,s.kn.getD k []⟩=c:=by unfold mY;simp[ah]
 have hkn:=hkt.mine h.wP ⟨⟨c.path.toArray⟩,c.act,⟨c.val.toArray⟩,c.n,s.kn.getD k []⟩ c hch rfl k hK5 hnew;refine hkn.UR (hev _ hch) h.qY.len (by simp;omega) (λe he=>?_);rcases List.mem_append.1 he with h1|h1
 ·exact h.src e h1
 ·rw[List.mem_singleton]at h1;rw[h1];exact⟨t,by rw[hch];exact hr⟩
theorem dR.done(h:dR w x S s q cap fv ds bs D P){t:Thk.Bs}{c:Thk.Ch}(hr:Thk.read t=.inr c){k:Nat}(hk:k<ds.length)(hl:s.es.length<500){e:Ev}(e1:ah e.p=c.path)(e2:e.a=c.act)(e3:ah e.v=c.val)(e4:e.n=c.n)(e5:e.xC=s.kn.getD k []){r':RD}(hM:qI w.heap.size ds[k] k (inc ds[k].K k) (gK ds[k].C c (dV k (ds[k].K k+1))) r')(hc:aQ w' x q cap fv 0 (ds.set k r') bs):∃S',Aa w' x S' ⟨s.es++[e],s.kn.set k (dN (s.kn.getD k []) s.es.length),s.fs⟩/\∀b,S' b->S b\/w.heap.size<=b:=by
 have hch:mY e=c:=by unfold mY;rw[e1,e2,e3,e4]
 obtain⟨hnew,hK5,_,hev⟩:=h.doB hr hk hl;have hkt:=h.tie k hk;have XE:=hM.Eh;obtain⟨io,co,lo,st,pv,rfl,hS,hI,_⟩:=hM;have hnd:nth (dV k (ds[k].K k+1))=ds[k].K k+1:=dw (by omega);have hwd:who (dV k (ds[k].K k+1))=k:=eF (by omega);have hkn:=hkt.mine h.wP e c hch e5 k hK5 hnew;have hmono:∀y:Hs,y.Ok s.es D->y.Ok (s.es++[e]) (D++[dV k (ds[k].K k+1)]):=λy hy=>Kn.other hy h.wP e _ hnew (by rw[hnd];omega);have hle:(jv s ds k).le ⟨dN (s.kn.getD k []) s.es.length,inc ds[k].K k,gK ds[k].C c (dV k (ds[k].K k+1))⟩:=λi hi=>by show(dN (s.kn.getD k []) s.es.length).getD i false=true;rw[vY _ _ hkt.len];have:(s.kn.getD k []).getD i false=true:=hi;rw[this];(first|done|rfl)
 have hrep:=hc.rep k (by simpa using hk);rw[List.getElem_set,if_pos rfl]at hrep;have hk5:∀y,inc ds[k].K k y<=500:=hrep.xw;have hsz:=hkn.size (hev e hch) h.qY.len hk5;have hH:=((h.hist k hk).step (es':=s.es++[e]) (D':=D++[dV k (ds[k].K k+1)]) (λy _ hy=>hmono y hy) (λj=>⟨qX.le.refl _,Hs.le.refl _⟩)).add (cur':=⟨dN (s.kn.getD k []) s.es.length,inc ds[k].K k,gK ds[k].C c (dV k (ds[k].K k+1))⟩) hkn hle (by show cnt (s.kn.getD k [])<cnt (dN (s.kn.getD k []) s.es.length);rw[Pg];omega) hsz.symm (io:=io) (co:=co) (lo:=lo) (pv:=pv) (fr:=k) (st:=st) hS hI (λhne=>absurd rfl hne);have hF:=h.learnt hk (fJ:=fv) (bs':=bs) (fs':=s.fs) (hev e hch) hmono hle hH (λy hy=>Or.inl hy) (λj hj d hd hw=>?_) ?_ (by simp;omega) (λe' he'=>?_) h.tq (λj h1 h2=>Or.inl ⟨h1,h2,rfl,rfl⟩) hc
 ·exact⟨_,hF.rE,h.XD hk XE (λg hg=>Or.inl hg)⟩
 ·by_cases e9:k=j
  ·subst e9;rw[if_pos rfl];show nth d<=inc ds[k].K k k;rw[dU];rcases List.mem_append.1 hd with h1|h1
   ·have:=h.mine k hk d h1 hw;omega
   ·simp at h1;subst h1;rw[hnd];omega
  ·rw[if_neg e9];rcases List.mem_append.1 hd with h1|h1
   ·exact h.mine j hj d h1 hw
   ·simp at h1;subst h1;rw[hwd]at hw;exact absurd hw e9
 ·have h1:=uM ds k hk (ds[k].more io co lo pv k st (inc ds[k].K k) (gK ds[k].C c (dV k (ds[k].K k+1)))) ds.length;rw[if_pos hk,if_pos hk]at h1;have h2:=h.sum;have h3:(ds[k].more io co lo pv k st (inc ds[k].K k) (gK ds[k].C c (dV k (ds[k].K k+1)))).K k=ds[k].K k+1:=dU _ _;rw[h3]at h1;rw[List.length_append,List.length_singleton];omega
 ·rcases List.mem_append.1 he' with h1|h1
  ·exact h.src e' h1
  ·simp at h1;subst h1;exact⟨t,by rw[hch];exact hr⟩
theorem dR.sent(h:dR w x S s q cap fv ds bs D P){fJ:Value}{k k':Nat}(hk:k<ds.length)(hk':k'<ds.length)(hne:k≠k'){b:ByteArray}(hb:Xy b ds[k] k')(hc:aQ w' x q cap fJ 0 ds (bs++[(k',b)]))(hn:∀g,fJ.ownBlock=some g->fv.ownBlock=some g\/w.heap.size<=g):∃S',Aa w' x S' ⟨s.es,s.kn,s.fs++[⟨k,k',0,s.kn.getD k [],b⟩]⟩/\∀g,S' g->S g\/w.heap.size<=g:=by
 obtain⟨S2,C2,rs,its,h1,h2,h3,h4,h5⟩:=hb;have hF:=h.RX (f:=⟨k,k',0,s.kn.getD k [],b⟩) hc ⟨rfl,rfl,hk',hk,hne,h5,λh9=>absurd h9 (by simp),λ_=>⟨jv s ds k,S2,C2,rs,its,(h.hist k hk).now,rfl, ?_,h4, ?_⟩⟩
 ·exact⟨_,hF.rE,h.zI hn⟩
 ·show ah b=dD (jD k (cnt (s.kn.getD k [])) rs its);rw[h3,(h.qY.ra k hk).1,h.size k hk]
 ·exact(h.hist k hk).brings h.wP h.qY.len h.vW h.src (λe=>hne e.symm) ((h.hist k' hk').ok _ (h.hist k' hk').now) h2 h1
theorem dR.joins(h:dR w x S s q cap fv ds bs D P){k:Nat}(hk:k<ds.length){y:Hs}(hy:y.Ok s.es D):Kn s.es D (bY (s.kn.getD k []) y.kn) (jr ds[k].K y.K) (iO ds[k].K ds[k].C y.K y.C)/\(∀z,jr ds[k].K y.K z<=500)/\kR (fst (jr ds[k].K y.K)) (iO ds[k].K ds[k].C y.K y.C) /\ ((∃d,1<=nth d/\fD ds[k] (jr ds[k].K y.K) (iO ds[k].K ds[k].C y.K y.C) d)->cnt (s.kn.getD k [])<cnt (bY (s.kn.getD k []) y.kn)/\aV ds[k].K+1<=aV (jr ds[k].K y.K))/\cnt (bY (s.kn.getD k []) y.kn)=aV (jr ds[k].K y.K):=by
 have hkt:=h.tie k hk;have hj:=hkt.join hy;have h5:∀z,jr ds[k].K y.K z<=500:=λz=>by have h1:=(h.qY.rep k hk).xw z;have h2:=Kn.dle hy h.wP z;have h3:=h.vW;unfold jr;omega
 have hsz:=hj.size h.wP h.qY.len h5;refine⟨hj,h5,hj.UR h.wP h.qY.len h.vW h.src,λhnw=>?_,hsz⟩;have:=Oz hkt hj (jS _ _).1 rfl rfl hnw;refine⟨this, ?_⟩;rw[<- hsz,<- h.size k hk];exact this
theorem dR.came(h:dR w x S s q cap fv ds bs D P){fJ:Value}{ds':List dK}(f:oZ)(i k:Nat)(hk:k<ds.length)(hkf:f.dst=k)(hsr:f.src<ds.length)(hne:f.src≠k){y:Hs}(hy:P f.src y)(hyk:y.kn=f.known){B:Nat}(hB:w.heap.size<=B){b:ByteArray}(hb:ah b=dD (jC k (cnt y.kn)))(hD:GZ B ds k hk f.src (jr ds[k].K y.K) (iO ds[k].K ds[k].C y.K y.C) ds')(hc:aQ w' x q cap fJ 0 ds' (bs++[(f.src,b)]))(hn:∀g,fJ.ownBlock=some g->fv.ownBlock=some g\/w.heap.size<=g):∃S' P',dR w' x S' ⟨s.es,s.kn.set k (l7 (s.kn.getD k []) f.known),s.fs++[⟨k,f.src,i+1,[],b⟩]⟩ q cap fJ ds' (bs++[(f.src,b)]) D P'/\(∀g,S' g->S g\/w.heap.size<=g)/\(s.kn.set k (l7 (s.kn.getD k []) f.known)=s.kn->waits ds'=waits ds):=by
 have hyo:=(h.hist f.src hsr).ok y hy;have hkt:=h.tie k hk;obtain⟨hj,h5,_,hgr,hsz⟩:=h.joins hk hyo;have hbs:b.size<=700000:=by rw[<- aB,hb];unfold dD jC;have:=bD 1;have:=bD k;have:=bD (cnt y.kn);rw[List.length_append,FY,List.length_append,List.length_append];omega
 rcases hD with⟨hno,rfl⟩|⟨hnw,r',hM,rfl⟩
 ·have hsub:=RY hkt hj h.wP rfl hno;have hyle:y.le (jv s ds' k):=λj hj2=>hsub j ((jS _ _).2 j hj2);have hdel:l7 (s.kn.getD k []) f.known=s.kn.getD k []:=by unfold l7;refine if_neg λhlt=>?_;rw[<- hyk]at hlt;have:=(uU _ _ s.es.length hsub hj.len hkt.len).1;omega
  have hset:s.kn.set k (s.kn.getD k [])=s.kn:=by
   have hkl:k<s.kn.length:=by rw[h.len];exact hk
   have:s.kn.getD k []=s.kn[k]:=by simp[hkl]
   rw[this,List.set_getElem_self]
  rw[hdel,hset];have hF:=h.RX (f:=⟨k,f.src,i+1,[],b⟩) hc ⟨rfl,rfl,hsr,hk,λe=>hne e.symm,hbs,λ_=>⟨y,hy,hyle,hb⟩,λh9=>absurd (Nat.succ_pos i) h9⟩;exact⟨_,_,hF,h.zI hn,λ_=>rfl⟩
 ·have XE:=hM.Eh.mono hB;obtain⟨io,co,lo,st,pv,rfl,hS,hI,_⟩:=hM;obtain⟨hlt,hlt2⟩:=hgr hnw;have hdel:l7 (s.kn.getD k []) f.known=bY (s.kn.getD k []) y.kn:=by unfold l7;rw[<- hyk];exact if_pos hlt
  rw[hdel];have hcur:=Eo s ds k hk;have hle:(jv s ds k).le ⟨bY (s.kn.getD k []) y.kn,jr ds[k].K y.K,iO ds[k].K ds[k].C y.K y.C⟩:=λj hj2=>(jS _ _).1 j hj2;have ai8:=(h.hist f.src hsr).top y hy;have hH:=(h.hist k hk).add (cur':=⟨bY (s.kn.getD k []) y.kn,jr ds[k].K y.K,iO ds[k].K ds[k].C y.K y.C⟩) hj hle hlt hsz.symm (io:=io) (co:=co) (lo:=lo) (pv:=pv) (fr:=f.src) (st:=st) hS hI (λ_=>by refine UW (a:=y) hyo ((h.hist k hk).ok _ (h.hist k hk).now) h.wP ?_ (Hs.sle hyo ((h.hist f.src hsr).ok _ (h.hist f.src hsr).now) h.wP ai8);rw[hcur];exact⟨rfl,rfl⟩);have hmax:jr ds[k].K y.K k=ds[k].K k:=by
   unfold jr;by_cases h0:y.K k=0
   ·omega
   ·obtain⟨g1,g2⟩:=hyo.all k (y.K k) (by omega) (Nat.le_refl _);have:=h.mine k hk _ g2 (eF g1);rw[dw g1]at this;omega
  have hF:=h.learnt hk (fJ:=fJ) (bs':=bs++[(f.src,b)]) (fs':=s.fs++[⟨k,f.src,i+1,[],b⟩]) h.wP (λy hy=>hy) hle hH (λy hy=>Or.inl hy) (λj hj d hd hw=>?_) ?_ h.vW h.src (by simp[h.tq]) (λj h1 h2=>?_) hc
  ·refine⟨_,_,hF,h.XD hk XE hn,λe=>?_⟩;exfalso;have e2:=Hy s.kn k (by rw[h.len];exact hk) (bY (s.kn.getD k []) y.kn) k;rw[e,if_pos rfl]at e2;rw[<- e2]at hlt;omega
  ·by_cases e9:k=j
   ·subst e9;rw[if_pos rfl];show nth d<=jr ds[k].K y.K k;rw[hmax];exact h.mine k hk d hd hw
   ·rw[if_neg e9];exact h.mine j hj d hd hw
  ·have h1:=uM ds k hk (ds[k].more io co lo pv f.src st (jr ds[k].K y.K) (iO ds[k].K ds[k].C y.K y.C)) ds.length;rw[if_pos hk,if_pos hk]at h1;have h2:=h.sum;have h3:(ds[k].more io co lo pv f.src st (jr ds[k].K y.K) (iO ds[k].K ds[k].C y.K y.C)).K k=ds[k].K k:=hmax;rw[h3]at h1;omega
  ·have hbl:=h.tq;rcases xP bs (f.src,b) j h1 with⟨a1,a2⟩|⟨a1,a2⟩<;>rcases xP s.fs (⟨k,f.src,i+1,[],b⟩:oZ) j h2 with⟨b1,b2⟩|⟨b1,b2⟩
   ·exact Or.inl ⟨a1,b1,a2,b2⟩
   ·omega
   ·omega
   ·refine Or.inr ?_;rw[a2,b2];refine⟨rfl,rfl,hsr,hk,λe=>hne e.symm,hbs,λ_=>⟨y, ?_, ?_,hb⟩,λh9=>absurd (Nat.succ_pos i) h9⟩
    ·show if k=f.src then _ else P f.src y
     rw[if_neg (λe=>hne e.symm)];exact hy
    ·show y.le (if k=k then _ else _);rw[if_pos rfl];exact λj hj2=>(jS _ _).2 j hj2
end
theorem dR.bsz(h:dR w x S s q cap fv ds bs D P):∀p∈bs,p.2.size<=1000000000:=by intro p hp;obtain⟨j,hj,rfl⟩:=List.getElem_of_mem hp;obtain⟨_,f2,_,_,_,f6,_⟩:=h.Tn j hj (by rw[<- h.tq];exact hj);rw[f2];omega
theorem dR.asks(h:dR w x S s q cap fv ds bs D P)(hG:Glob w)(i:Int)(t:ByteArray)(hs:t.size<=1048576):Calls Tryz.prog 24 #[.pointer (some ⟨x,0,none⟩),.int .i64 i,.string t] w λe w'=>∃u,e=.returned (.tuple #[.string u,.int .i64 (jg s.es s.kn i (ah t)).2])/\ah u=(jg s.es s.kn i (ah t)).1/\aQ w' x q cap fv 0 ds bs/\ay (λk=>k=x) w w':=by
 have hfit:∀e∈s.es,G7 e:=λe he=>by obtain⟨u,hu⟩:=h.src e he;exact XC hu
 refine Calls.mono (Rt w hG x q cap fv ds bs h.qY (λj hj=>(h.tie j hj).ai6 h.wP h.vW hfit) i t hs) ?_;rintro e w'⟨u,r,rfl,hA,hC,hc⟩;have hle:=h.len;have fin:(jg s.es s.kn i (ah t)).2=r/\ah u=(jg s.es s.kn i (ah t)).1:=by
  unfold jg;rcases hA with⟨h1,rfl,rfl⟩|⟨h1,h2,rfl,rfl⟩|⟨k,hk,rfl,h2,rfl,xs,hx,rfl⟩
  ·rw[if_neg (by rw[hle];exact h1)];exact⟨rfl,rfl⟩
  ·rw[if_pos (by rw[hle];exact h1),h2];exact⟨rfl,rfl⟩
  ·rw[if_pos (by rw[hle];omega),h2];exact⟨rfl,UQ (ah t) hfit ((h.tie k hk).perm h.wP hx)⟩
 exact⟨u,by rw[fin.1],fin.2,hC,hc⟩
theorem dR.knows(h:dR w x S s q cap fv ds bs D P)(i:Int):Calls Tryz.prog 22 #[.pointer (some ⟨x,0,none⟩),.int .i64 i] w λe w'=>e=.returned (.tuple #[.int .i64 (jc s.kn i).1,.int .i64 (jc s.kn i).2])/\aQ w' x q cap fv 0 ds bs/\ay (λk=>k=x) w w':=by
 refine Calls.mono (J6 w x q cap fv ds bs h.qY i) ?_;rintro e w'⟨rfl,hC,hc⟩;have hle:=h.len;have fin:qH ds i=jc s.kn i:=by
  unfold qH jc;by_cases hi:0<=i/\i<ds.length
  ·rw[if_pos hi,if_pos (by rw[hle];exact hi)];have hk:i.toNat<ds.length:=by omega
   rw[(h.tie i.toNat hk).size h.wP h.qY.len (h.qY.rep _ hk).xw,List.getElem?_eq_getElem hk];rfl
  ·rw[if_neg hi,if_neg (by rw[hle];exact hi)]
 exact⟨by rw[fin],hC,hc⟩
theorem OA(ds:List dK){k:Nat}(hk:k<ds.length){r':RD}(h:r'.ps=ds[k].ps):(ds.set k r').map (λd=>d.ps.length)=ds.map (λd=>d.ps.length):=by
 rw[List.map_set];refine List.ext_getElem (by simp) λj h1 h2=>?_;rw[List.getElem_set];by_cases e:k=j
 ·subst e;simp[h]
 ·simp[e]
theorem dR.EM(h:dR w x S s q cap fv ds bs D P)(hG:Glob w)(f:Int):Calls Tryz.prog 31 #[.pointer (some ⟨x,0,none⟩),.int .i64 f] w λe w'=>e=.returned (.tuple #[.int .i64 (iw s f).1,.int .i64 (iw s f).2])/\∃S' s' fJ ds' bs' P',rM s f s'/\dR w' x S' s' q cap fJ ds' bs' D P'/\(s'.kn=s.kn->waits ds'=waits ds)/\(∀k,S' k->S k\/w.heap.size<=k)/\ay S w w':=by
 have hbl:=h.tq;by_cases hf:1<=f/\f<=bs.length
 ·obtain⟨i,rfl⟩:∃i:Nat,f=(i:Int)+1:=⟨(f-1).toNat,by omega⟩;have hi:i<bs.length:=by omega
  have hi':i<s.fs.length:=by omega
  have hno:kD s ((i:Int)+1)=some s.fs[i]:=by unfold kD;rw[if_pos (by omega),show((i:Int)+1).toNat-1=i by omega,List.getElem?_eq_getElem hi']
  obtain⟨f1,f2,f3,f4,f5,f6,f7,f8⟩:=h.Tn i hi hi';have XF:∀{j:Nat}(hj:j<ds.length){y:Hs},P j y->cnt y.kn<=505:=λ{j}hj{y}hy=>by have h1:=((h.hist j hj).ok y hy).len;have h2:=LH y.kn;have h3:=h.vW;omega
  by_cases ha:0<s.fs[i].ack
  ·have e1:iw s ((i:Int)+1)=(0,0):=by unfold iw;rw[hno];exact if_pos ha
   have e2:rM s ((i:Int)+1) s:=⟨rfl,by rw[hno];dsimp only;rw[if_pos (Or.inl ha)];exact⟨rfl,rfl⟩⟩;obtain⟨t,t1,t2,t3⟩:=f7 ha;refine Calls.mono (Ei w x q cap fv ds bs h.qY i hi S ((h.own x).2 (Or.inl rfl)) (λn r wx=>n=0/\r=0/\aQ wx x q cap fv 0 (ds.set s.fs[i].dst (ds[s.fs[i].dst].ack s.fs[i].src (cnt t.kn))) bs/\ay S w wx) (λwx hx hc=>?_)) ?_
   ·rw[f1,f2];refine Calls.mono (Ry wx x q cap fv ds bs hx _ f3 _ s.fs[i].src (cnt t.kn) f4 f5 (XF f3 t1) t3) ?_;rintro e w'⟨rfl,hC',hc'⟩;exact⟨0,0,fv,_,bs,rfl,hC',λh1 h2=>⟨rfl,rfl,h1,h2⟩,(h.sx hc).trans (hc'.wide (λk hk=>(h.own k).2 (Or.inr (Or.inr (Or.inr ⟨_,f3,hk⟩)))))⟩
   ·rintro e w'⟨n,r,rfl,rfl,rfl,h1,h2⟩;have hF:=h.same f3 (r':=ds[s.fs[i].dst].ack s.fs[i].src (cnt t.kn)) rfl rfl ((h.hist _ f3).KX _ t1 t2) h1;exact⟨by rw[e1],_,s,fv,_,bs,P,e2,hF,λ_=>by unfold waits;exact OA ds f3 rfl,h.XD f3 (zM _ _ _ _) (λg hg=>Or.inl hg),h2⟩
  ·obtain⟨y,S2,C2,rs,its,y1,y2,y3,y4,y5⟩:=f8 ha;have hyo:=(h.hist _ f4).ok y y1;have h6:=h.qY.len;by_cases h5:500<=bs.length
   ·have e1:iw s ((i:Int)+1)=(0,7):=by unfold iw;rw[hno];exact(if_neg ha).trans (if_pos (by omega))
    have e2:rM s ((i:Int)+1) s:=⟨rfl,by rw[hno];dsimp only;rw[if_pos (Or.inr (show 500<=s.fs.length by omega))];exact⟨rfl,rfl⟩⟩;refine Calls.mono (Ei w x q cap fv ds bs h.qY i hi (λk=>k=x) rfl (λn r wx=>n=0/\r=7/\aQ wx x q cap fv 0 ds bs/\ay (λk=>k=x) w wx) (λwx hx hc=>?_)) ?_
    ·rw[f1,f2];refine Calls.mono (Om wx (hG.J7 hc (λk e=>by subst e;exact h.qY.x4)) x q cap fv ds bs hx _ f3 _ s.fs[i].src (cnt y.kn) (by omega) (XF f4 y1) S2 C2 rs its y3 y4 (by omega) h5) ?_;rintro e w'⟨rfl,hb⟩;exact⟨0,7,fv,ds,bs,rfl,hx.below hb,λh1 h2=>⟨rfl,rfl,h1,h2⟩,hc.below hb⟩
    ·rintro e w'⟨n,r,rfl,rfl,rfl,h1,h2⟩;exact⟨by rw[e1],S,s,fv,ds,bs,P,e2,h.keep h1,λ_=>rfl,λk hk=>Or.inl hk,h.sx h2⟩
   ·have e1:iw s ((i:Int)+1)=(((bs.length+1:Nat):Int),0):=by unfold iw;rw[hno];refine((if_neg ha).trans (if_neg (by omega))).trans ?_;rw[hbl];(first|done|rfl)
    obtain⟨_,j2,j3,j4,_⟩:=h.joins f3 hyo;refine Calls.mono (Ei w x q cap fv ds bs h.qY i hi S ((h.own x).2 (Or.inl rfl)) (λn r wx=>n=((bs.length+1:Nat):Int)/\r=0/\ay S w wx/\∃S' b fJ ds' bs' P',dR wx x S' ⟨s.es,s.kn.set s.fs[i].dst (l7 (s.kn.getD s.fs[i].dst []) s.fs[i].known),s.fs++[⟨s.fs[i].dst,s.fs[i].src,i+1,[],b⟩]⟩ q cap fJ ds' bs' D P'/\(∀g,S' g->S g\/w.heap.size<=g)/\(s.kn.set s.fs[i].dst (l7 (s.kn.getD s.fs[i].dst []) s.fs[i].known)=s.kn->waits ds'=waits ds)) (λwx hx hc=>?_)) ?_
    ·rw[f1,f2];refine Calls.mono (UN wx (hG.J7 hc (λk e=>by subst e;exact h.qY.x4)) x q cap fv ds bs hx s.fs[i].dst f3 _ s.fs[i].src (cnt y.kn) (by omega) (XF f4 y1) S2 C2 rs its y3 y4 (by omega) (by omega) _ _ (λib cb lb=>AZ y4 (h.tie _ f3) hyo h.wP (by rw[Eo s ds _ f3]at y5;exact y5) (some ib) (some cb) (some lb) _ rfl rfl) j3 j2 (λhh=>(j4 hh).2)) ?_;rintro e w'⟨ds',b,fJ,rfl,hbb,hC',hD',hc',hn'⟩;have hcS:ay S w w':=(hc.wide (λk e=>(h.own k).2 (Or.inl e))).trans (hc'.wide (λk hk=>(h.own k).2 (by
      rcases hk with hk|hk|hk
      ·exact Or.inl hk
      ·exact Or.inr (Or.inr (Or.inl hk))
      ·exact Or.inr (Or.inr (Or.inr ⟨_,f3,hk⟩)))))
     have hz:=hc.size;refine⟨_,_,fJ,_,_,rfl,hC',λh1 h2=>⟨rfl,rfl,h2, ?_⟩,hcS⟩;obtain⟨S',P',h7,h8,h9⟩:=h.came s.fs[i] i s.fs[i].dst f3 rfl f4 f5 y1 y2 hz hbb hD' h1 (λg hg=>(hn' g hg).imp id (λh9=>Nat.le_trans hz h9));exact⟨S',b,_,_,_,P',h7,h8,h9⟩
    ·rintro e w'⟨n,r,rfl,rfl,rfl,h1,S',b,fJ,ds',bs',P',h2,h3,h4⟩;refine⟨by rw[e1],S',⟨s.es,s.kn.set s.fs[i].dst (l7 (s.kn.getD s.fs[i].dst []) s.fs[i].known),s.fs++[⟨s.fs[i].dst,s.fs[i].src,i+1,[],b⟩]⟩,fJ,ds',bs',P',⟨rfl, ?_⟩,h2,h4,h3,h1⟩;rw[hno];dsimp only;rw[if_neg (show ¬(0<s.fs[i].ack\/500<=s.fs.length)by omega)];exact⟨rfl,b,rfl⟩
 ·have hno:kD s f=none:=by unfold kD;rw[if_neg (by rw[<- hbl];exact hf)]
  refine Calls.mono (Rx w x q cap fv ds bs h.qY f hf) ?_;rintro e w'⟨rfl,hC,hc⟩;exact⟨by unfold iw;rw[hno],S,s,fv,ds,bs,P,⟨rfl,by rw[hno];exact⟨rfl,rfl⟩⟩,h.keep hC,λ_=>rfl,λk hk=>Or.inl hk,h.sx hc⟩
theorem UY:fF Aa:={
 bad:=by intro w r room _ h;refine Calls.mono (UK r room w h) ?_;rintro e w'⟨rfl,rfl⟩;exact⟨rfl,Below.refl _ _⟩
 good:=by
  intro w r room hG h1 h6 h50 _;have h4:4<=w.heap.size:=hG.size;refine Calls.mono (Ru r room w hG h1 h6 h50) ?_;rintro e w'⟨rv,ds,rfl,hr,hN⟩;subst hr;obtain⟨q,cap,rfl,hq,hC⟩:=hN.done h4 h1 h6 rfl;have hin:∀j(h:j<ds.length),∃rb kb db ab,ds[j]=Cb rb kb db ab j room ds.length:=λj h=>(hN.rep j h).2.1;have hcu:∀j,jv ⟨[],List.replicate ds.length [],[]⟩ ds j=⟨[],λ_=>0,λ_=>none⟩:=λj=>by
   unfold jv;have h9:(List.replicate ds.length ([]:List Bool)).getD j []=[]:=by
    by_cases hj:j<ds.length
    ·simp[hj]
    ·rw[List.getD_eq_getElem?_getD,List.getElem?_eq_none (by simp;omega)];(first|done|rfl)
   show Hs.mk ((List.replicate ds.length ([]:List Bool)).getD j []) _ _=_;rw[h9];by_cases hj:j<ds.length
   ·obtain⟨rb,kb,db,ab,e9⟩:=hin j hj;rw[List.getElem?_eq_getElem hj,e9];rfl
   ·rw[List.getElem?_eq_none (by omega)];(first|done|rfl)
  refine⟨w.heap.size,Kt w.heap.size q (.slice none 0 0) ds,rfl,⟨q,cap,.slice none 0 0,ds,[],[],λ_ y=>y=⟨[],λ_=>0,λ_=>none⟩,hC,λk=>Iff.rfl,by simp,⟨rfl,List.Pairwise.nil,λd h=>absurd h (by simp)⟩,λj hj=>?_,λj hj d h=>absurd h (by simp), ?_,by simp,λe he=>absurd he (by simp),rfl,λj h=>absurd h (by simp)⟩,λk hk=>?_,hN.bel⟩
  ·rw[hcu j];obtain⟨rb,kb,db,ab,e9⟩:=hin j hj;rw[e9];refine⟨λy hy=>by subst hy;exact Kn.nil,⟨_,rfl,rfl⟩,rfl,rfl,rfl,λy y' hy hy' _=>by subst hy;subst hy';exact Hs.le.refl _,λy hy=>by subst hy;exact Hs.le.refl _,⟨_,rfl,rfl,rfl⟩,λi=>⟨_,rfl,rfl,by rw[hcu i];exact Hs.le.refl _⟩⟩
  ·have hz:∀m,jM ds m=0:=λm=>by
    induction m with
    | zero=>rfl
    | succ m ih =>
     rw[jM,ih];unfold zI;by_cases hm:m<ds.length
     ·obtain⟨rb,kb,db,ab,e9⟩:=hin m hm;rw[List.getElem?_eq_getElem hm,e9];rfl
     ·rw[List.getElem?_eq_none (by omega)];(first|done|rfl)
   rw[hz];(first|done|rfl)
  ·rcases hk with rfl|rfl|hk|⟨j,hj,ho⟩
   ·exact Nat.le_refl _
   ·exact hq
   ·cases hk
   ·exact(hN.rep j hj).2.2 k ho
 does:=by
  rintro w x S s i t r es' lM hG⟨q,cap,fv,ds,bs,D,P,h⟩ hs hd;refine Calls.mono (UH w hG x q cap fv ds bs h.qY i t hs (λk hk c hr hl=>(h.doB hr hk (by rw[<- h.sum];exact hl)).2.2.1)) ?_;rintro e w'⟨r',ds',rfl,hD,hC,hc⟩;have hcS:ay S w w':=h.sc hc;have hle:=h.len;have hsm:=h.sum;rcases hD with⟨hi,rfl,rfl⟩|⟨m,hi,hr,rfl,rfl⟩|⟨c,hi,hr,hl,rfl,rfl⟩|⟨c,k,hk,r2,rfl,hr,hl,hM,rfl,rfl⟩ <;>
   rcases hd with⟨h3,rfl,rfl,rfl⟩|⟨k',h3,h4,rfl,rfl,rfl⟩|⟨c',h3,h4,h5,rfl,rfl,rfl⟩|⟨c',e',h3,h4,h5,b1,b2,b3,b4,b5,rfl,rfl,rfl⟩
  ·exact⟨rfl,S,(h.keep hC).rE,λk hk=>Or.inl hk,hcS⟩
  ·exact absurd h3 (by rw[hle];exact hi)
  ·exact absurd h3 (by rw[hle];exact hi)
  ·exact absurd h3 (by rw[hle];exact hi)
  ·exact absurd (by rw[hle];exact hi) h3
  ·rw[hr]at h4;cases h4;exact⟨rfl,S,(h.keep hC).rE,λk hk=>Or.inl hk,hcS⟩
  ·rw[hr]at h4;cases h4
  ·rw[hr]at h4;cases h4
  ·exact absurd (by rw[hle];exact hi) h3
  ·rw[hr]at h4;cases h4
  ·exact⟨rfl,S,(h.keep hC).rE,λk hk=>Or.inl hk,hcS⟩
  ·omega
  ·exact absurd (by rw[hle];omega) h3
  ·rw[hr]at h4;cases h4
  ·omega
  ·rw[hr]at h4;cases h4
   obtain⟨S',h6,h7⟩:=h.done hr hk h5 b1 b2 b3 b4 b5 hM hC;exact⟨rfl,S',h6,h7,hcS⟩
 asks:=by rintro w x S s i t hG⟨q,cap,fv,ds,bs,D,P,h⟩ hs;refine Calls.mono (h.asks hG i t hs) ?_;rintro e w'⟨u,rfl,hu,hC,hc⟩;exact⟨u,rfl,hu,S,(h.keep hC).rE,λk hk=>Or.inl hk,h.sx hc⟩
 knows:=by rintro w x S s i hG⟨q,cap,fv,ds,bs,D,P,h⟩;refine Calls.mono (h.knows i) ?_;rintro e w'⟨rfl,hC,hc⟩;exact⟨rfl,S,(h.keep hC).rE,λk hk=>Or.inl hk,h.sx hc⟩
 sends:=by
  rintro w x S s i j hG⟨q,cap,fv,ds,bs,D,P,h⟩;refine Calls.mono (Ol w hG x q cap fv ds bs h.qY (λj hj=>⟨(h.hist j hj).ai7 h.wP h.qY.len h.vW h.src,by have h1:=h.size j hj;have h2:=LH (s.kn.getD j []);have h3:=(h.tie j hj).len;have h4:=h.vW;omega⟩) i j) ?_;rintro e w'⟨n,r,bs',fJ,rfl,hD,hC,hc,hn⟩;have hle:=h.len;have hbl:=h.tq;have hcS:ay S w w':=hc.wide (λk hk=>(h.own k).2 (hk.elim Or.inl (λhk=>Or.inr (Or.inr (Or.inl hk)))));have same:∀{fv2:Value},aQ w' x q cap fv2 0 ds bs->(∀g,fv2.ownBlock=some g->fv.ownBlock=some g\/w.heap.size<=g)->∃S',Aa w' x S' s/\∀g,S' g->S g\/w.heap.size<=g:=λ{fv2}hC2 hn2=>⟨Kt x q fv2 ds,⟨q,cap,fv2,ds,bs,D,P,hC2,λg=>Iff.rfl,h.len,h.wP,h.hist,h.mine,h.sum,h.vW,h.src,h.tq,h.Tn⟩,h.zI hn2⟩;rcases hD with⟨hi,rfl,rfl,rfl⟩|⟨hi,hij,rfl,rfl,rfl⟩|⟨hi,hij,h5,rfl,rfl,rfl⟩|⟨k,k',hk,b,rfl,rfl,hk',hij,h5,rfl,rfl,rfl,hb⟩
  ·have e1:dH s i j=(0,2):=by unfold dH;rw[if_neg (by rw[hle];exact hi)]
   obtain⟨S',h7,h8⟩:=same hC hn;exact⟨by rw[e1],S',s,⟨rfl,rfl,by rw[e1,if_neg (by decide)]⟩,h7,h8,hcS⟩
  ·have e1:dH s i j=(0,1):=by unfold dH;rw[if_pos (by rw[hle];exact hi),if_pos hij]
   obtain⟨S',h7,h8⟩:=same hC hn;exact⟨by rw[e1],S',s,⟨rfl,rfl,by rw[e1,if_neg (by decide)]⟩,h7,h8,hcS⟩
  ·have e1:dH s i j=(0,7):=by unfold dH;rw[if_pos (by rw[hle];exact hi),if_neg hij,if_pos (by omega)]
   obtain⟨S',h7,h8⟩:=same hC hn;exact⟨by rw[e1],S',s,⟨rfl,rfl,by rw[e1,if_neg (by decide)]⟩,h7,h8,hcS⟩
  ·have e1:dH s (k:Int) (k':Int)=(((bs.length+1:Nat):Int),0):=by unfold dH;rw[if_pos (by rw[hle];omega),if_neg hij,if_neg (by omega),hbl];(first|done|rfl)
   obtain⟨S',h7,h8⟩:=h.sent hk hk' (by omega) hb hC hn;exact⟨by rw[e1],S',⟨s.es,s.kn,s.fs++[⟨k,k',0,s.kn.getD k [],b⟩]⟩,⟨rfl,rfl,by rw[e1,if_pos rfl];exact⟨b,rfl⟩⟩,h7,h8,hcS⟩
 frame:=by
  rintro w x S s f hG⟨q,cap,fv,ds,bs,D,P,h⟩;refine Calls.mono (Kq w x q cap fv ds bs h.qY h.bsz f) ?_;rintro e w'⟨rfl,hC,hc⟩;have hbl:=h.tq;have fin:qJ bs f=kE s f:=by
   unfold qJ kE kD;by_cases hf:1<=f/\f<=bs.length
   ·rw[if_pos hf,if_pos (by rw[<- hbl];exact hf)];have h1:f.toNat-1<bs.length:=by omega
    have h2:f.toNat-1<s.fs.length:=by omega
    obtain⟨_,f2,_⟩:=h.Tn _ h1 h2;rw[List.getElem?_eq_getElem h1,List.getElem?_eq_getElem h2];simp only[Option.map_some,Option.getD_some];rw[f2]
   ·rw[if_neg hf,if_neg (by rw[<- hbl];exact hf)]
  refine⟨by rw[fin],S,(h.keep hC).rE,λk hk=>Or.inl hk,h.sx hc⟩
 EM:=by rintro w x S s f hG⟨q,cap,fv,ds,bs,D,P,h⟩;refine Calls.mono (h.EM hG f) ?_;rintro e w'⟨rfl,S',s',fJ,ds',bs',P',h1,h2,_,h3,h4⟩;exact⟨rfl,S',s',h1,h2.rE,h3,h4⟩
 fsz:=by
  rintro w x S s f g⟨q,cap,fv,ds,bs,D,P,h⟩ hg;unfold kD at hg;by_cases hf:1<=f/\f<=s.fs.length
  ·rw[if_pos hf]at hg;have h2:f.toNat-1<s.fs.length:=by omega
   rw[List.getElem?_eq_getElem h2]at hg;cases hg
   have:=(h.Tn _ (by rw[h.tq];exact h2) h2).2.2.2.2.2.1;omega
  ·rw[if_neg hf]at hg;cases hg
 Yr:=by rintro w x S s⟨q,cap,fv,ds,bs,D,P,h⟩;have:=h.qY.GR;have:=h.tq;omega }
