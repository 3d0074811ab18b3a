import Derived.Test.YtfmmllpjgkgeaaaGreatDoorPartS39
set_option linter.unusedVariables false
set_option linter.unusedSimpArgs false
set_option maxHeartbeats 16000000
set_option maxRecDepth 100000
namespace Go.Proofs.YtfmmllpjgkgeaaaGreatDoor
section
open Go.RowKit Go.Maps Go.WideMaps
variable{bs:List (Nat×ByteArray)}{D:List Nat}{ds:List RepD}{cap q x:Nat}{P:Nat->Hs->Prop}{S:Nat->Prop}{s:St}{fv:Value}{w:World}
theorem Thk.N8(l:Thk.Bs)(c:Thk.Ch)(h:Thk.read l=.inr c):Thk.fits (Thk.kindOf c.path) c.act=true:=by
 unfold Thk.read at h;split at h
 .cases h
 .unfold Thk.eH at h;split at h
  .cases h
  .split at h
   .cases h
   .rename_i h3;have e:=lT h;rw[e];simpa using h3
theorem Ur{e:Ev}{t:Thk.Bs}(h:Thk.read t=.inr (jL e)):DJ e:=by obtain⟨b,c,d,f,_⟩:=Thk.read_ok _ _ h;have a:=Thk.N8 _ _ h;unfold jL at b c d f a;simp only at b c d f a;exact⟨a,by rw[<- toL_length];omega,by rw[<- toL_length];omega,V,V⟩
def curs(s:St)(ds:List RepD)(j:Nat):Hs:=⟨s.kn.getD j [],(ds[j]?.map RD.K).getD (λ_=>0),(ds[j]?.map RD.C).getD (λ_=>none)⟩
theorem curs_at(s:St)(ds:List RepD)(j:Nat)(h:j<ds.length):curs s ds j=⟨s.kn.getD j [],ds[j].K,ds[j].C⟩:=by unfold curs;simp[h]
def FrTie(n:Nat)(fs:List FrD)(P:Nat->Hs->Prop)(o:Nat->Hs)(b:Nat×ByteArray)(f:FrD):Prop :=
 b.1=f.dst/\b.2=f.bytes/\f.dst<n/\f.src<n/\f.src≠f.dst/\f.bytes.size<=700000 /\
 (0<f.ack->∃t g,P f.dst t/\t.le (o f.src)/\toL f.bytes=sealL (encAm f.src (cnt t.kn))/\fs[f.ack-1]?=some g/\cnt t.kn=cnt g.known/\g.src=f.dst/\g.dst=f.src/\g.ack=0) /\
 (¬0<f.ack->∃h S C rs its,P f.src h/\h.kn=f.known/\toL f.bytes=sealL (encFm f.src (cnt h.kn) rs its)/\EncOf S C rs its/\Brings ⟨λd=>1<=nth d/\S d,C⟩ h.jA (o f.dst).jA)
theorem FrTie.imp{n:Nat}{p fs':List FrD}{m:Nat->Hs->Prop}{o l:Nat->Hs}{b:Nat×ByteArray}{f:FrD}(s:FrTie n p P o b f)(t:∀(k:Nat)g,p[k]?=some g->fs'[k]?=some g)(q:∀j x,P j x->m j x)(r:∀j,(o j).jA.le (l j).jA/\(o j).le (l j)):FrTie n fs' m l b f:=by
 obtain⟨f1,f2,f3,f4,f5,f6,f7,f8⟩:=s;refine⟨f1,f2,f3,f4,f5,f6,λi=>?_,λi=>?_⟩
 .obtain⟨w,g,a,c,d,e,h⟩:=f7 i;exact⟨w,g,q _ _ a,c.trans (r _).2,d,t _ _ e,h⟩
 .obtain⟨x,S,C,v,u,a,c,d,e,h⟩:=f8 i;exact⟨x,S,C,v,u,q _ _ a,c,d,e,h.later (r _).1⟩
structure CluF(w:World)(x:Nat)(S:Nat->Prop)(s:St)(q cap:Nat)(fv:Value)(ds:List RepD)(bs:List (Nat×ByteArray))(D:List Nat)(P:Nat->Hs->Prop):Prop where
 clu:CluP w x q cap fv 0 ds bs
 own:∀k,S k↔k=x\/k=q\/fv.ownBlock=some k\/∃j,∃h:j<ds.length,ds[j].own k
 len:s.kn.length=ds.length
 evd:EvD s.es D ds.length
 hist:∀j(h:j<ds.length),HistR s.es D j (P j) (curs s ds) (curs s ds j) ds[j]
 mine:∀j(h:j<ds.length)d,d∈D->who d=j->nth d<=ds[j].K j
 sum:sumN ds ds.length=s.es.length
 e500:s.es.length<=500
 src:∀e∈s.es,∃t,Thk.read t=.inr (jL e)
 blen:bs.length=s.fs.length
 frs:∀j(h:j<bs.length)(h':j<s.fs.length),FrTie ds.length s.fs P (curs s ds) bs[j] s.fs[j]
def waits(ds:List RepD):List Nat:=ds.map λd=>d.ps.length
section
variable{w w':World}{x:Nat}{S:Nat->Prop}{s:St}{q cap:Nat}{fv:Value}{ds:List RepD}{bs:List (Nat×ByteArray)}{D:List Nat}{P:Nat->Hs->Prop}
theorem CluF.tie(h:CluF w x S s q cap fv ds bs D P)(j:Nat)(a:j<ds.length):Kn s.es D (s.kn.getD j []) ds[j].K ds[j].C:=by have:=(h.hist j a).ok _ (h.hist j a).now;rw[curs_at s ds j a]at this;exact this
theorem CluF.size(h:CluF w x S s q cap fv ds bs D P)(j:Nat)(a:j<ds.length):cnt (s.kn.getD j [])=sizeK ds[j].K:=(h.tie j a).size h.evd h.clu.len (h.clu.rep j a).rY
theorem cnt_len(l:List Bool):cnt l<=l.length:=by unfold cnt;exact List.length_filter_le _ _
theorem CluF.chg{M:Nat->Prop}(h:CluF w x S s q cap fv ds bs D P)(b:Chg M w w')(a:∀k,S k->¬M k):CluF w' x S s q cap fv ds bs D P :=
 ⟨h.clu.chg b (a x ((h.own x).2 (τ rfl))) (a q ((h.own q).2 (υ (τ rfl)))) (λj d k e=>a k ((h.own k).2 (υ (υ (υ ⟨j,d,e⟩))))) (λg c=>a g ((h.own g).2 (υ (υ (τ c))))),h.own,h.len,h.evd,h.hist,h.mine,h.sum,h.e500,h.src,h.blen,h.frs⟩
theorem CluF.tags(h:CluF w x S s q cap fv ds bs D P){k:Nat}(b:S k){t:TypeId}(a:Tagged w k t):¬isRef t/\t≠4/\t≠159/\t≠63/\t≠116:=by
 have key:t=79\/t=81\/t=109\/t=125\/t=220\/t=222\/t=229:=by
  rcases(h.own k).1 b with rfl|rfl|b|⟨j,c,d⟩
  .exact τ (GZ h.clu.blk a)
  .obtain⟨f,e,_⟩:=h.clu.row;exact υ (τ (GZ e a))
  .exact υ (υ (τ (kW a (h.clu.Rq k b))))
  .exact υ (υ (υ (h.clu.NM j c d a)))
 unfold isRef;rcases key with rfl|rfl|rfl|rfl|rfl|rfl|rfl<;>decide
theorem CluF.lt(h:CluF w x S s q cap fv ds bs D P){k:Nat}(a:S k):k<w.heap.size:=by
 rcases(h.own k).1 a with rfl|rfl|a|⟨j,b,c⟩
 .exact h.clu.blk.lt
 .obtain⟨e,d,_⟩:=h.clu.row;exact d.lt
 .exact(h.clu.Rq k a).lt
 .exact(h.clu.rep j b).lt c
end
theorem N9(ds:List RepD)(k:Nat)(a:k<ds.length)(d:RepD)(j:Nat):ownN (ds.set k d) j=if j=k then d.K k else ownN ds j:=by
 unfold ownN;rw[List.getElem?_set];by_cases e:k=j
 .subst e;simp[a]
 .rw[ύ e,ύ (λh=>e h.symm)]
theorem pX(ds:List RepD)(k:Nat)(b:k<ds.length)(d:RepD):∀m,sumN (ds.set k d) m+(if k<m then ds[k].K k else 0)=sumN ds m+(if k<m then d.K k else 0)
 | 0=>by simp[sumN]
 | m+1=>by
  have c:=pX ds k b d m;rw[sumN,sumN,N9 ds k b];by_cases e:m=k
  .subst e;rw[ώ rfl,ώ V,ώ V];rw[ύ V,ύ V]at c;rw[GX ds m b];omega
  .rw[ύ e];by_cases a:k<m
   .rw[ώ a,ώ a]at c;rw[ώ V,ώ V];omega
   .rw[ύ a,ύ a]at c;rw[ύ V,ύ V];omega
theorem getD_set(b:List (List Bool))(k:Nat)(c:k<b.length)(a:List Bool)(j:Nat):(b.set k a).getD j []=if k=j then a else b.getD j []:=by
 rw[ξ,List.getElem?_set];by_cases e:k=j
 .subst e;simp[c]
 .rw[ύ e,ύ e,ξ]
section
variable{w w':World}{x:Nat}{S:Nat->Prop}{s:St}{q cap:Nat}{fv:Value}{ds:List RepD}{bs:List (Nat×ByteArray)}{D:List Nat}{P:Nat->Hs->Prop}
theorem CluF.keep(h:CluF w x S s q cap fv ds bs D P)(a:CluP w' x q cap fv 0 ds bs):CluF w' x S s q cap fv ds bs D P:=⟨a,h.own,h.len,h.evd,h.hist,h.mine,h.sum,h.e500,h.src,h.blen,h.frs⟩
theorem CluF.sx(h:CluF w x S s q cap fv ds bs D P)(a:Chg (λk=>k=x) w w'):Chg S w w':=a.wide (λk e=>(h.own k).2 (τ e))
theorem CluF.sc(h:CluF w x S s q cap fv ds bs D P)(a:Chg (gy x ds) w w'):Chg S w w':=a.wide (λk e=>(h.own k).2 (by
 rcases e with e|e
 .exact τ e
 .exact υ (υ (υ e))))
def ownS(x q:Nat)(fv:Value)(ds:List RepD)(b:Nat):Prop:=b=x\/b=q\/fv.ownBlock=some b\/∃j,∃h:j<ds.length,ds[j].own b
theorem CluF.ownR(h:CluF w x S s q cap fv ds bs D P){fv':Value}{k:Nat}(l:k<ds.length){r':RD}(n:kD w.heap.size ds[k] r')(m:∀g,fv'.ownBlock=some g->fv.ownBlock=some g\/w.heap.size<=g):∀b,ownS x q fv' (ds.set k r') b->S b\/w.heap.size<=b:=by
 intro b d;rcases d with rfl|rfl|d|⟨j,f,a⟩
 .exact τ ((h.own _).2 (τ rfl))
 .exact τ ((h.own _).2 (υ (τ rfl)))
 .exact(m b d).imp (λc=>(h.own _).2 (υ (υ (τ c)))) id
 .have i:j<ds.length:=by simpa using f
  rw[List.getElem_set]at a;by_cases e:k=j
  .rw[ώ e]at a;exact(n.own b a).imp (λc=>(h.own _).2 (υ (υ (υ ⟨k,l,c⟩)))) id
  .rw[ύ e]at a;exact τ ((h.own _).2 (υ (υ (υ ⟨j,i,a⟩))))
theorem CluF.ownN(h:CluF w x S s q cap fv ds bs D P){fv':Value}(d:∀g,fv'.ownBlock=some g->fv.ownBlock=some g\/w.heap.size<=g):∀b,ownS x q fv' ds b->S b\/w.heap.size<=b:=by
 intro b a;rcases a with rfl|rfl|a|a
 .exact τ ((h.own _).2 (τ rfl))
 .exact τ ((h.own _).2 (υ (τ rfl)))
 .exact(d b a).imp (λc=>(h.own _).2 (υ (υ (τ c)))) id
 .exact τ ((h.own _).2 (υ (υ (υ a))))
theorem Oa(s:St)(ds:List RepD){k:Nat}(b:k<ds.length)(c:s.kn.length=ds.length)(es':List Ev)(a:List Bool)(fs':List FrD)(r':RD)(j:Nat):curs ⟨es',s.kn.set k a,fs'⟩ (ds.set k r') j=if k=j then⟨a,r'.K,r'.C⟩else curs s ds j:=by
 unfold curs;show Hs.mk ((s.kn.set k a).getD j []) _ _=_;rw[getD_set _ _ (by rw[c];exact b),List.getElem?_set];by_cases e:k=j
 .subst e;simp[b]
 .rw[ύ e,ύ e,ύ e]
theorem JU(s:St)(ds:List RepD){k:Nat}(c:k<ds.length){r':RD}(b:r'.K=ds[k].K)(a:r'.C=ds[k].C):curs s (ds.set k r')=curs s ds:=by
 funext j;unfold curs;rw[List.getElem?_set];by_cases e:k=j
 .subst e;simp[c,b,a]
 .rw[ύ e]
theorem CluF.same(h:CluF w x S s q cap fv ds bs D P){k:Nat}(b:k<ds.length){r':RD}(d:r'.K=ds[k].K)(o:r'.C=ds[k].C)(p:HistR s.es D k (P k) (curs s ds) (curs s ds k) r')(r:CluP w' x q cap fv 0 (ds.set k r') bs):CluF w' x (ownS x q fv (ds.set k r')) s q cap fv (ds.set k r') bs D P:=by
 have i:=JU s ds b d o;refine⟨r,λt=>Iff.rfl,by simp[h.len],by rw[List.length_set];exact h.evd,λj e=>?_,λj e g l m=>?_, ?_,h.e500,h.src,h.blen,λj c n=>?_⟩
 .have f:j<ds.length:=by simpa using e
  rw[i,List.getElem_set];by_cases a:k=j
  .subst a;rw[ώ rfl];exact p
  .rw[ύ a];exact h.hist j f
 .have f:j<ds.length:=by simpa using e
  rw[List.getElem_set];by_cases a:k=j
  .subst a;rw[ώ rfl,d];exact h.mine k b g l m
  .rw[ύ a];exact h.mine j f g l m
 .have c:=pX ds k b r' ds.length;rw[ώ b,ώ b,d]at c;have:=h.sum;rw[List.length_set];omega
 .rw[List.length_set,i];exact h.frs j c n
theorem app_get{c : Type}(l:List c)(a:c)(j:Nat)(h:j<(l++[a]).length):(∃e:j<l.length,(l++[a])[j]=l[j])\/(j=l.length/\(l++[a])[j]=a):=by
 by_cases b:j<l.length
 .exact τ ⟨b,List.getElem_append_left b⟩
 .have d:j=l.length:=by simp at h;omega
  exact υ ⟨d,by rw[List.getElem_append_right V];simp⟩
theorem sQ{b : Type}{l l2:List b}{k:Nat}{a:b}(h:l[k]?=some a):(l++l2)[k]?=some a:=by rw[ε (List.getElem?_eq_some_iff.1 h).1];exact h
theorem CluF.Ob(h:CluF w x S s q cap fv ds bs D P){fv':Value}{b:Nat×ByteArray}{f:FrD}(k:CluP w' x q cap fv' 0 ds (bs++[b]))(l:FrTie ds.length (s.fs++[f]) P (curs s ds) b f):CluF w' x (ownS x q fv' ds) ⟨s.es,s.kn,s.fs++[f]⟩ q cap fv' ds (bs++[b]) D P:=by
 refine⟨k,λb=>Iff.rfl,h.len,h.evd,h.hist,h.mine,h.sum,h.e500,h.src,by simp[h.blen],λj g i=>?_⟩;have o:=h.blen;rcases app_get bs b j g with⟨d,a⟩|⟨d,a⟩<;>rcases app_get s.fs f j i with⟨e,c⟩|⟨e,c⟩
 .rw[a];show FrTie _ _ _ _ _ ((s.fs++[f])[j]);rw[c];exact(h.frs j d e).imp (λp n m=>sQ m) (λ_ _ h=>h) (λj=>⟨mV.le.refl _,Hs.le.refl _⟩)
 .omega
 .omega
 .rw[a];show FrTie _ _ _ _ _ ((s.fs++[f])[j]);rw[c];exact l
theorem CluF.learnt(h:CluF w x S s q cap fv ds bs D P){k:Nat}(o:k<ds.length){r':RD}{c:List Bool}{es':List Ev}{D':List Nat}{i:Hs->Prop}{fv':Value}{bs':List (Nat×ByteArray)}{fs':List FrD}(v:EvD es' D' ds.length)(C:∀y:Hs,y.Ok s.es D->y.Ok es' D')(B:(curs s ds k).le ⟨c,r'.K,r'.C⟩)(m:HistR es' D' k i (curs s ds) ⟨c,r'.K,r'.C⟩ r')(L:∀y,P k y->i y)(U:∀j(l:j<ds.length)f,f∈D'->who f=j->nth f<=(if k=j then r' else ds[j]).K j)(W:sumN (ds.set k r') ds.length=es'.length)(K:es'.length<=500)(X:∀e∈es',∃Z,Thk.read Z=.inr (jL e))(M:bs'.length=fs'.length)(T:∀(k2:Nat)g,s.fs[k2]?=some g->fs'[k2]?=some g)(R:∀j(t:j<bs'.length)(u:j<fs'.length),(∃(a:j<bs.length)(b:j<s.fs.length),bs'[j]=bs[j]/\fs'[j]=s.fs[j])\/FrTie ds.length fs' (λj y=>if k=j then i y else P j y) (λj=>if k=j then⟨c,r'.K,r'.C⟩else curs s ds j) bs'[j] fs'[j])(N:CluP w' x q cap fv' 0 (ds.set k r') bs'):CluF w' x (ownS x q fv' (ds.set k r')) ⟨es',s.kn.set k c,fs'⟩ q cap fv' (ds.set k r') bs' D' (λj y=>if k=j then i y else P j y):=by
 have G:=Oa s ds o h.len es' c fs' r';have p:∀j,(curs s ds j).jA.le ((if k=j then(⟨c,r'.K,r'.C⟩:Hs)else curs s ds j)).jA/\(curs s ds j).le (if k=j then(⟨c,r'.K,r'.C⟩:Hs)else curs s ds j):=λj=>by
  by_cases e:k=j
  .subst e;rw[ώ rfl];exact⟨Hs.sle (C _ ((h.hist k o).ok _ (h.hist k o).now)) (m.ok _ m.now) v B,B⟩
  .rw[ύ e];exact⟨mV.le.refl _,Hs.le.refl _⟩
 have A:curs ⟨es',s.kn.set k c,fs'⟩ (ds.set k r')=λj=>if k=j then(⟨c,r'.K,r'.C⟩:Hs)else curs s ds j:=funext G
 refine⟨N,λb=>Iff.rfl,by simp[h.len],by rw[List.length_set];exact v,λj l=>?_,λj l f Q Y=>?_,by rw[List.length_set];exact W,K,X,M,λj t u=>?_⟩
 .have n:j<ds.length:=by simpa using l
  rw[A,List.getElem_set];by_cases r:k=j
  .subst r;simp only[ώ];exact m.step (λy _ d=>d) p
  .simp only[ύ r];exact(h.hist j n).step (λy _ d=>C y d) p
 .have n:j<ds.length:=by simpa using l
  have:=U j n f Q Y;rw[List.getElem_set];exact this
 .rw[List.length_set,A];rcases R j t u with⟨a,b,E,F⟩|H
  .rw[E];show FrTie _ _ _ _ _ (fs'[j]);rw[F];exact(h.frs j a b).imp T (λj y d=>by
    by_cases e:k=j
    .subst e;rw[ώ rfl];exact L y d
    .rw[ύ e];exact d) p
  .exact H
end
section
variable{es:List Ev}{D:List Nat}{n:Nat}{k1 k2:List Bool}{K1 K2:Nat->Nat}{C1 C2:Nat->Option Thk.Ch}
theorem JV(a:Kn es D k1 K1 C1)(b:Kn es D k2 K2 C2)(k:∀j,k1.getD j false=true->k2.getD j false=true){r:RD}(f:r.K=K1)(c:r.C=C1)(n:∃d,1<=nth d/\dB r K2 C2 d):cnt k1<cnt k2:=by refine Classical.byContradiction λl=>?_;have o:=(mX k1 k2 es.length k a.len b.len).2 l;obtain⟨e,g⟩:=a.uniq b (λj=>(o j).symm);obtain⟨d,h,i,m⟩:=n;subst f c;exact m ⟨(g d h).2 i,by rw[e]⟩
theorem Oc(h:Kn es D k1 K1 C1)(b:Kn es D k2 K2 C2)(c:EvD es D n){r:RD}(i:r.K=K1)(m:∀d,1<=nth d->¬dB r K2 C2 d):∀j,k2.getD j false=true->k1.getD j false=true:=by
 intro j a;subst i;have f:j<D.length:=by rw[c.len];refine Classical.byContradiction λo=>?_;have:=b.len;rw[getD_len V]at a;cases a
 have e:D[j]?=some D[j]:=σ f;have k:=(b.vec j _ e).1 a;refine(h.vec j _ e).2 (Classical.byContradiction λl=>?_);exact m D[j] (c.ok _ (κ f)).2.1 ⟨k,λg=>l g.1⟩
theorem Qw{a b c o:Hs}(q:a.Ok es D)(r:b.Ok es D)(p:EvD es D n)(i:c.K=gu b.K a.K/\c.C=fD b.K b.C a.K a.C)(g:a.jA.le o.jA):qU b c o:=by
 intro e j t;have s:mV.join a.jA b.jA c.jA:=by have:=Kn.Ru r q p;unfold Hs.jA;rw[i.1,i.2];exact this
 obtain⟨u,m,v⟩:=s;obtain⟨k,l⟩:=t;by_cases f:c.C e=none
 .rcases(m e).1 ⟨⟨j,k⟩,f⟩with d|d
  .exact⟨g.s e d.1,λ_=>g.g e d⟩
  .exact absurd ⟨d.1.2,⟨λ_=>d.2,λ_=>f⟩⟩ l
 .refine⟨?_,λh=>absurd h f⟩;rcases(u e).1 ⟨j,k⟩with d|d
  .exact g.s e d
  .refine absurd ⟨d.2,⟨λh=>absurd h f,λh=>?_⟩⟩ l;exact((m e).2 (υ ⟨d,h⟩)).2
end
theorem gW(a b:List Bool):(∀j,a.getD j false=true->(bothL a b).getD j false=true)/\∀j,b.getD j false=true->(bothL a b).getD j false=true:=⟨λj h=>by rw[bU,h];rfl,λj h=>by rw[bU,h];simp⟩
section
variable{w w':World}{x:Nat}{S:Nat->Prop}{s:St}{q cap:Nat}{fv:Value}{ds:List RepD}{bs:List (Nat×ByteArray)}{D:List Nat}{P:Nat->Hs->Prop}
theorem CluF.doB(h:CluF w x S s q cap fv ds bs D P){t:Thk.Bs}{c:Thk.Ch}(A:Thk.read t=.inr c){k:Nat}(d:k<ds.length)(F:s.es.length<500):mkD k (ds[k].K k+1) ∉ D/\ds[k].K k+1<=500/\StoB (fst (inc ds[k].K k)) (stepC ds[k].C c (mkD k (ds[k].K k+1))) /\ ∀e:Ev,jL e=c->EvD (s.es++[e]) (D++[mkD k (ds[k].K k+1)]) ds.length:=by
 have l:=h.tie k d;have E:=l.dle h.evd k;have g:ds[k].K k+1<=500:=V
 have n:who (mkD k (ds[k].K k+1))=k:=bW V;have m:nth (mkD k (ds[k].K k+1))=ds[k].K k+1:=aZ V;have f:mkD k (ds[k].K k+1) ∉ D:=λy=>by have:=h.mine k d _ y n;rw[m]at this;omega
 have j:∀e:Ev,jL e=c->EvD (s.es++[e]) (D++[mkD k (ds[k].K k+1)]) ds.length:=λe _=>by
  refine⟨by simp[h.evd.len], ?_,λo u=>?_⟩
  .rw[List.nodup_append];exact⟨h.evd.nd,Ω,λB r C i p=>by simp at i;subst i;subst p;exact f r⟩
  .rcases θ.1 u with a|a
   .exact h.evd.ok o a
   .simp at a;subst a;rw[n,m];exact⟨d,V,V⟩
 refine⟨f,g, ?_,j⟩;have b:jL ⟨⟨c.path.toArray⟩,c.act,⟨c.val.toArray⟩,c.n,s.kn.getD k []⟩=c:=by unfold jL;simp[toL]
 have hkn:=l.mine h.evd ⟨⟨c.path.toArray⟩,c.act,⟨c.val.toArray⟩,c.n,s.kn.getD k []⟩ c b rfl k g f;refine hkn.Qu (j _ b) h.clu.len Θ (λe v=>?_);rcases θ.1 v with a|a
 .exact h.src e a
 .rw[List.mem_singleton]at a;rw[a];exact⟨t,by rw[b];exact A⟩
theorem CluF.done(h:CluF w x S s q cap fv ds bs D P){t:Thk.Bs}{c:Thk.Ch}(G:Thk.read t=.inr c){k:Nat}(d:k<ds.length)(hl:s.es.length<500){e:Ev}(N:toL e.p=c.path)(Q:e.a=c.act)(R:toL e.v=c.val)(T:e.n=c.n)(U:e.saw=s.kn.getD k []){r':RD}(p:mQ w.heap.size ds[k] k (inc ds[k].K k) (stepC ds[k].C c (mkD k (ds[k].K k+1))) r')(r:CluP w' x q cap fv 0 (ds.set k r') bs):∃n D' L,CluF w' x n ⟨s.es++[e],s.kn.set k (moreOf (s.kn.getD k []) s.es.length),s.fs⟩ q cap fv (ds.set k r') bs D' L/\∀b,n b->S b\/w.heap.size<=b:=by
 have a6:jL e=c:=by unfold jL;rw[N,Q,R,T]
 obtain⟨F,Z,_,v⟩:=h.doB G d hl;have A:=h.tie k d;have a3:=p.zX;obtain⟨io,co,lo,st,pv,rfl,hS,Y,_⟩:=p;have E:nth (mkD k (ds[k].K k+1))=ds[k].K k+1:=aZ V;have a5:who (mkD k (ds[k].K k+1))=k:=bW V;have hkn:=A.mine h.evd e c a6 U k Z F;have C:∀y:Hs,y.Ok s.es D->y.Ok (s.es++[e]) (D++[mkD k (ds[k].K k+1)]):=λy f=>Kn.other f h.evd e _ F (by rw[E];omega);have B:(curs s ds k).le ⟨moreOf (s.kn.getD k []) s.es.length,inc ds[k].K k,stepC ds[k].C c (mkD k (ds[k].K k+1))⟩:=λK hi=>by show(moreOf (s.kn.getD k []) s.es.length).getD K false=true;rw[qV _ _ A.len];have:(s.kn.getD k []).getD K false=true:=hi;rw[this];(first|done|rfl)
 have H:=r.rep k (by simpa using d);rw[List.getElem_set,ώ rfl]at H;have a1:∀y,inc ds[k].K k y<=500:=H.rY;have a4:=hkn.size (v e a6) h.clu.len a1;have X:=((h.hist k d).step (es':=s.es++[e]) (D':=D++[mkD k (ds[k].K k+1)]) (λy _ f=>C y f) (λj=>⟨mV.le.refl _,Hs.le.refl _⟩)).add (cur':=⟨moreOf (s.kn.getD k []) s.es.length,inc ds[k].K k,stepC ds[k].C c (mkD k (ds[k].K k+1))⟩) hkn B (by show cnt (s.kn.getD k [])<cnt (moreOf (s.kn.getD k []) s.es.length);rw[cnt_more];omega) a4.symm (io:=io) (co:=co) (lo:=lo) (pv:=pv) (fr:=k) (st:=st) hS Y (λa2=>absurd rfl a2);have hF:=h.learnt d (fv':=fv) (bs':=bs) (fs':=s.fs) (v e a6) C B X (λy f=>τ f) (λj hj l u i=>?_) ?_ Θ (λM a0=>?_) h.blen (λ_ _ h=>h) (λj a o=>τ ⟨a,o,rfl,rfl⟩) r
 .exact⟨_,_,_,hF,h.ownR d a3 (λg hg=>τ hg)⟩
 .by_cases m:k=j
  .subst m;rw[ώ rfl];show nth l<=inc ds[k].K k k;rw[bP];rcases θ.1 u with a|a
   .have:=h.mine k d l a i;omega
   .simp at a;subst a;rw[E];omega
  .rw[ύ m];rcases θ.1 u with a|a
   .exact h.mine j hj l a i
   .simp at a;subst a;rw[a5]at i;exact absurd i m
 .have a:=pX ds k d (ds[k].more io co lo pv k st (inc ds[k].K k) (stepC ds[k].C c (mkD k (ds[k].K k+1)))) ds.length;rw[ώ d,ώ d]at a;have o:=h.sum;have W:(ds[k].more io co lo pv k st (inc ds[k].K k) (stepC ds[k].C c (mkD k (ds[k].K k+1)))).K k=ds[k].K k+1:=bP _ _;rw[W]at a;rw[ρ,List.length_singleton];omega
 .rcases θ.1 a0 with a|a
  .exact h.src M a
  .simp at a;subst a;exact⟨t,by rw[a6];exact G⟩
theorem CluF.sent(h:CluF w x S s q cap fv ds bs D P){fv':Value}{k a:Nat}(c:k<ds.length)(d:a<ds.length)(i:k≠a){b:ByteArray}(y:FrBy b ds[k] a)(A:CluP w' x q cap fv' 0 ds (bs++[(a,b)]))(B:∀g,fv'.ownBlock=some g->fv.ownBlock=some g\/w.heap.size<=g):∃e,CluF w' x e ⟨s.es,s.kn,s.fs++[⟨k,a,0,s.kn.getD k [],b⟩]⟩ q cap fv' ds (bs++[(a,b)]) D P/\∀g,e g->S g\/w.heap.size<=g:=by
 obtain⟨m,C2,l,j,o,p,r,t,u⟩:=y;have hF:=h.Ob (f:=⟨k,a,0,s.kn.getD k [],b⟩) A ⟨rfl,rfl,d,c,i,u,λv=>absurd v Ω,λ_=>⟨curs s ds k,m,C2,l,j,(h.hist k c).now,rfl, ?_,t, ?_⟩⟩
 .exact⟨_,hF,h.ownN B⟩
 .show toL b=sealL (encFm k (cnt (s.kn.getD k [])) l j);rw[r,(h.clu.ra k c).1,h.size k c]
 .exact(h.hist k c).brings h.evd h.clu.len h.e500 h.src (λn=>i n.symm) ((h.hist a d).ok _ (h.hist a d).now) p o
theorem CluF.joins(h:CluF w x S s q cap fv ds bs D P){k:Nat}(c:k<ds.length){y:Hs}(i:y.Ok s.es D):Kn s.es D (bothL (s.kn.getD k []) y.kn) (gu ds[k].K y.K) (fD ds[k].K ds[k].C y.K y.C)/\(∀a,gu ds[k].K y.K a<=500)/\StoB (fst (gu ds[k].K y.K)) (fD ds[k].K ds[k].C y.K y.C) /\ ((∃d,1<=nth d/\dB ds[k] (gu ds[k].K y.K) (fD ds[k].K ds[k].C y.K y.C) d)->cnt (s.kn.getD k [])<cnt (bothL (s.kn.getD k []) y.kn)/\sizeK ds[k].K+1<=sizeK (gu ds[k].K y.K))/\cnt (bothL (s.kn.getD k []) y.kn)=sizeK (gu ds[k].K y.K):=by
 have f:=h.tie k c;have b:=f.join i;have e:∀a,gu ds[k].K y.K a<=500:=λa=>by have l:=(h.clu.rep k c).rY a;have m:=Kn.dle i h.evd a;have n:=h.e500;unfold gu;omega
 have g:=b.size h.evd h.clu.len e;refine⟨b,e,b.Qu h.evd h.clu.len h.e500 h.src,λj=>?_,g⟩;have:=JV f b (gW _ _).1 rfl rfl j;refine⟨this, ?_⟩;rw[<- g,<- h.size k c];exact this
theorem CluF.came(h:CluF w x S s q cap fv ds bs D P){fv':Value}{m:List RepD}(f:FrD)(i k:Nat)(a3:s.fs[i]?=some f)(a0:f.ack=0)(c:k<ds.length)(Q:f.dst=k)(o:f.src<ds.length)(K:f.src≠k){y:Hs}(d:P f.src y)(l:y.kn=f.known){B:Nat}(hB:w.heap.size<=B){b:ByteArray}(F:toL b=sealL (encAm k (cnt y.kn)))(hD:DC B ds k c f.src (gu ds[k].K y.K) (fD ds[k].K ds[k].C y.K y.C) m)(Z:CluP w' x q cap fv' 0 m (bs++[(f.src,b)]))(hn:∀g,fv'.ownBlock=some g->fv.ownBlock=some g\/w.heap.size<=g):∃N P',CluF w' x N ⟨s.es,s.kn.set k (delK (s.kn.getD k []) f.known),s.fs++[⟨k,f.src,i+1,[],b⟩]⟩ q cap fv' m (bs++[(f.src,b)]) D P'/\(∀g,N g->S g\/w.heap.size<=g)/\((¬cnt (s.kn.getD k [])<cnt (bothL (s.kn.getD k []) f.known)/\m=ds)\/(cnt (s.kn.getD k [])<cnt (bothL (s.kn.getD k []) f.known)/\∃io co lo pv st M C',m=ds.set k (ds[k].more io co lo pv f.src st M C')/\sizeK M=cnt (bothL (s.kn.getD k []) f.known))):=by
 have u:=(h.hist f.src o).ok y d;have H:=h.tie k c;obtain⟨n,h5,_,a9,a6⟩:=h.joins c u;have Y:b.size<=700000:=by rw[<- toL_length,F];unfold sealL encAm;have:=encN_len 1;have:=encN_len k;have:=encN_len (cnt y.kn);rw[ρ,BX,ρ,ρ];omega
 rcases hD with⟨ab,rfl⟩|⟨ac,r',X,rfl⟩
 .have L:=Oc H n h.evd rfl ab;have af:y.le (curs s m k):=λj r=>L j ((gW _ _).2 j r);have G:delK (s.kn.getD k []) f.known=s.kn.getD k []:=by unfold delK;refine ύ λe=>?_;rw[<- l]at e;have:=(mX _ _ s.es.length L n.len H.len).1;omega
  have ae:s.kn.set k (s.kn.getD k [])=s.kn:=by
   have aa:k<s.kn.length:=by rw[h.len];exact c
   have:s.kn.getD k []=s.kn[k]:=by simp[aa]
   rw[this,List.set_getElem_self]
  rw[G,ae];have hF:=h.Ob (f:=⟨k,f.src,i+1,[],b⟩) Z ⟨rfl,rfl,o,c,λp=>K p.symm,Y,λ_=>⟨y,f,d,af,F,sQ a3,by rw[l],rfl,Q,a0⟩,λE=>absurd (Nat.succ_pos i) E⟩;refine⟨_,_,hF,h.ownN hn,τ ⟨λe=>?_,rfl⟩⟩;rw[<- l]at e;have:=(mX _ _ s.es.length L n.len H.len).1;omega
 .have ad:=X.zX.mono hB;obtain⟨io,co,lo,st,pv,rfl,hS,hI,_⟩:=X;obtain⟨e,ai⟩:=a9 ac;have G:delK (s.kn.getD k []) f.known=bothL (s.kn.getD k []) y.kn:=by unfold delK;rw[<- l];exact ώ e
  rw[G];have a8:=curs_at s ds k c;have a4:(curs s ds k).le ⟨bothL (s.kn.getD k []) y.kn,gu ds[k].K y.K,fD ds[k].K ds[k].C y.K y.C⟩:=λj r=>(gW _ _).1 j r;have a7:=(h.hist f.src o).top y d;have hH:=(h.hist k c).add (cur':=⟨bothL (s.kn.getD k []) y.kn,gu ds[k].K y.K,fD ds[k].K ds[k].C y.K y.C⟩) n a4 e a6.symm (io:=io) (co:=co) (lo:=lo) (pv:=pv) (fr:=f.src) (st:=st) hS hI (λ_=>by refine Qw (a:=y) u ((h.hist k c).ok _ (h.hist k c).now) h.evd ?_ (Hs.sle u ((h.hist f.src o).ok _ (h.hist f.src o).now) h.evd a7);rw[a8];exact⟨rfl,rfl⟩);have a5:gu ds[k].K y.K k=ds[k].K k:=by
   unfold gu;by_cases h0:y.K k=0
   .omega
   .obtain⟨g1,g2⟩:=u.all k (y.K k) V (χ _);have:=h.mine k c _ g2 (bW g1);rw[aZ g1]at this;omega
  have hF:=h.learnt c (fv':=fv') (bs':=bs++[(f.src,b)]) (fs':=s.fs++[⟨k,f.src,i+1,[],b⟩]) h.evd (λy d=>d) a4 hH (λy d=>τ d) (λj n C hd hw=>?_) ?_ h.e500 h.src (by simp[h.blen]) (λ_ _ h=>sQ h) (λj t W=>?_) Z
  .exact⟨_,_,hF,h.ownR c ad hn,υ ⟨by rw[<- l];exact e,io,co,lo,pv,st,_,_,rfl,by rw[<- l];exact a6.symm⟩⟩
  .by_cases U:k=j
   .subst U;rw[ώ rfl];show nth C<=gu ds[k].K y.K k;rw[a5];exact h.mine k c C hd hw
   .rw[ύ U];exact h.mine j n C hd hw
  .have t:=pX ds k c (ds[k].more io co lo pv f.src st (gu ds[k].K y.K) (fD ds[k].K ds[k].C y.K y.C)) ds.length;rw[ώ c,ώ c]at t;have W:=h.sum;have h3:(ds[k].more io co lo pv f.src st (gu ds[k].K y.K) (fD ds[k].K ds[k].C y.K y.C)).K k=ds[k].K k:=a5;rw[h3]at t;omega
  .have ag:=h.blen;rcases app_get bs (f.src,b) j t with⟨R,v⟩|⟨R,v⟩<;>rcases app_get s.fs (⟨k,f.src,i+1,[],b⟩:FrD) j W with⟨T,A⟩|⟨T,A⟩
   .exact τ ⟨R,T,v,A⟩
   .omega
   .omega
   .refine υ ?_;rw[v,A];refine⟨rfl,rfl,o,c,λp=>K p.symm,Y,λ_=>⟨y,f, ?_, ?_,F,sQ a3,by rw[l],rfl,Q,a0⟩,λE=>absurd (Nat.succ_pos i) E⟩
    .show if k=f.src then _ else P f.src y
     rw[ύ (λp=>K p.symm)];exact d
    .show y.le (if k=k then _ else _);rw[ώ rfl];exact λj r=>(gW _ _).2 j r
end
theorem CluF.bsz(h:CluF w x S s q cap fv ds bs D P):∀p∈bs,p.2.size<=1000000000:=by intro p b;obtain⟨j,a,rfl⟩:=List.getElem_of_mem b;obtain⟨_,f2,_,_,_,f6,_⟩:=h.frs j a (by rw[<- h.blen];exact a);rw[f2];omega
theorem CluF.asks(h:CluF w x S s q cap fv ds bs D P)(l:Glob w)(i:Int)(t:ByteArray)(r:t.size<=1048576):Calls Tryz.prog 24 #[.pointer (some (z x)),.int .i64 i,.string t] w λe w'=>∃u,e=.returned (.tuple #[.string u,.int .i64 (askR s.es s.kn i (toL t)).2])/\toL u=(askR s.es s.kn i (toL t)).1/\CluP w' x q cap fv 0 ds bs/\Chg (λk=>k=x) w w':=by
 have f:∀e∈s.es,DJ e:=λe n=>by obtain⟨u,v⟩:=h.src e n;exact Ur v
 refine ψ (NK w l x q cap fv ds bs h.clu (λA o=>(h.tie A o).ab8 h.evd h.e500 f) i t r) ?_;rintro e w'⟨u,B,rfl,g,j,m⟩;have c:=h.len;have d:(askR s.es s.kn i (toL t)).2=B/\toL u=(askR s.es s.kn i (toL t)).1:=by
  unfold askR;rcases g with⟨a,rfl,rfl⟩|⟨a,b,rfl,rfl⟩|⟨k,p,rfl,b,rfl,C,y,rfl⟩
  .rw[ύ (by rw[c];exact a)];exact⟨rfl,rfl⟩
  .rw[ώ (by rw[c];exact a),b];exact⟨rfl,rfl⟩
  .rw[ώ (by rw[c];omega),b];exact⟨rfl,Qs (toL t) f ((h.tie k p).perm h.evd y)⟩
 exact⟨u,by rw[d.1],d.2,j,m⟩
theorem CluF.knows(h:CluF w x S s q cap fv ds bs D P)(i:Int):Calls Tryz.prog 22 #[.pointer (some (z x)),.int .i64 i] w λe w'=>e=.returned (.tuple #[.int .i64 (knowsR s.kn i).1,.int .i64 (knowsR s.kn i).2])/\CluP w' x q cap fv 0 ds bs/\Chg (λk=>k=x) w w':=by
 refine ψ (FX w x q cap fv ds bs h.clu i) ?_;rintro e w'⟨rfl,f,g⟩;have c:=h.len;have d:mP ds i=knowsR s.kn i:=by
  unfold mP knowsR;by_cases a:0<=i/\i<ds.length
  .rw[ώ a,ώ (by rw[c];exact a)];have b:i.toNat<ds.length:=V
   rw[(h.tie i.toNat b).size h.evd h.clu.len (h.clu.rep _ b).rY,σ b];rfl
  .rw[ύ a,ύ (by rw[c];exact a)]
 exact⟨by rw[d],f,g⟩
def DelD(s:St)(f:Int)(ds ds':List RepD):Prop :=
 match frNo s f with
 | none=>ds'=ds
 | some g=>if 0<g.ack then ∃g0,s.fs[g.ack-1]?=some g0/\g0.src=g.dst/\g0.dst=g.src/\g0.ack=0/\∃h:g.dst<ds.length,ds'=ds.set g.dst (ds[g.dst].ack g.src (cnt g0.known))else if 500<=s.fs.length then ds'=ds else
  (¬cnt (s.kn.getD g.dst [])<cnt (bothL (s.kn.getD g.dst []) g.known)/\ds'=ds)\/(cnt (s.kn.getD g.dst [])<cnt (bothL (s.kn.getD g.dst []) g.known)/\∃h:g.dst<ds.length,∃io co lo pv st K' C',ds'=ds.set g.dst (ds[g.dst].more io co lo pv g.src st K' C')/\sizeK K'=cnt (bothL (s.kn.getD g.dst []) g.known))
theorem CluF.dels(h:CluF w x S s q cap fv ds bs D P)(Y:Glob w)(f:Int):Calls Tryz.prog 31 #[.pointer (some (z x)),.int .i64 f] w λe w'=>e=.returned (.tuple #[.int .i64 (delR s f).1,.int .i64 (delR s f).2])/\∃l s' t o B p,DelTo s f s'/\CluF w' x l s' q cap t o B D p/\DelD s f ds o/\(∀k,l k->S k\/w.heap.size<=k)/\Chg S w w':=by
 have a0:=h.blen;by_cases hf:1<=f/\f<=bs.length
 .obtain⟨i,rfl⟩:∃i:Nat,f=(i:Int)+1:=⟨(f-1).toNat,V⟩;have E:i<bs.length:=V
  have R:i<s.fs.length:=V
  have c:frNo s ((i:Int)+1)=some s.fs[i]:=by unfold frNo;rw[ώ V,show((i:Int)+1).toNat-1=i by omega,σ R]
  obtain⟨f1,f2,f3,f4,f5,f6,f7,f8⟩:=h.frs i E R;have H:∀{F:Nat}(hj:F<ds.length){y:Hs},P F y->cnt y.kn<=505:=λ{F}hj{y}hy=>by have d:=((h.hist F hj).ok y hy).len;have g:=cnt_len y.kn;have X:=h.e500;omega
  by_cases m:0<s.fs[i].ack
  .have C:delR s ((i:Int)+1)=(0,0):=by unfold delR;rw[c];exact ώ m
   have K:DelTo s ((i:Int)+1) s:=⟨rfl,by rw[c];dsimp only;rw[ώ (τ m)];exact⟨rfl,rfl⟩⟩;obtain⟨T,g0,t1,t2,t3,t4,t5,t6,t7,t8⟩:=f7 m;refine ψ (zY w x q cap fv ds bs h.clu i E S ((h.own x).2 (τ rfl)) (λn r a=>n=0/\r=0/\CluP a x q cap fv 0 (ds.set s.fs[i].dst (ds[s.fs[i].dst].ack s.fs[i].src (cnt T.kn))) bs/\Chg S w a) (λa A j=>?_)) ?_
   .rw[f1,f2];refine ψ (NS a x q cap fv ds bs A _ f3 _ s.fs[i].src (cnt T.kn) f4 f5 (H f3 t1) t3) ?_;rintro e w'⟨rfl,M,N⟩;exact⟨0,0,fv,_,bs,rfl,M,λd g=>⟨rfl,rfl,d,g⟩,(h.sx j).trans (N.wide (λk b=>(h.own k).2 (υ (υ (υ ⟨_,f3,b⟩)))))⟩
   .rintro e w'⟨n,r,rfl,rfl,rfl,d,g⟩;have hF:=h.same f3 (r':=ds[s.fs[i].dst].ack s.fs[i].src (cnt T.kn)) rfl rfl ((h.hist _ f3).acked _ t1 t2) d;exact⟨by rw[C],_,s,fv,_,bs,P,K,hF,by unfold DelD;rw[c];exact(ώ m).mpr ⟨g0,t4,t6,t7,t8,f3,by rw[t5]⟩,h.ownR f3 (vU _ _ _ _) (λv Q=>τ Q),g⟩
  .obtain⟨y,W,C2,rs,a2,G,y2,y3,U,y5⟩:=f8 m;have a1:=(h.hist _ f4).ok y G;have h6:=h.clu.len;by_cases h5:500<=bs.length
   .have C:delR s ((i:Int)+1)=(0,7):=by unfold delR;rw[c];exact(ύ m).trans (ώ V)
    have K:DelTo s ((i:Int)+1) s:=⟨rfl,by rw[c];dsimp only;rw[ώ (υ (V:500<=s.fs.length))];exact⟨rfl,rfl⟩⟩;refine ψ (zY w x q cap fv ds bs h.clu i E (λk=>k=x) rfl (λn r a=>n=0/\r=7/\CluP a x q cap fv 0 ds bs/\Chg (λk=>k=x) w a) (λa A j=>?_)) ?_
    .rw[f1,f2];refine ψ (JL a (Y.Dv j (λk e=>by subst e;exact h.clu.x4)) x q cap fv ds bs A _ f3 _ s.fs[i].src (cnt y.kn) V (H f4 G) W C2 rs a2 y3 U V h5) ?_;rintro e w'⟨rfl,Z⟩;exact⟨0,7,fv,ds,bs,rfl,A.below Z,λd g=>⟨rfl,rfl,d,g⟩,j.below Z⟩
    .rintro e w'⟨n,r,rfl,rfl,rfl,d,g⟩;exact⟨by rw[C],S,s,fv,ds,bs,P,K,h.keep d,by unfold DelD;rw[c];dsimp only;rw[ύ m,ώ V],λk b=>τ b,h.sx g⟩
   .have C:delR s ((i:Int)+1)=(((bs.length+1:Nat):Int),0):=by unfold delR;rw[c];refine((ύ m).trans (ύ V)).trans ?_;rw[a0];(first|done|rfl)
    obtain⟨_,j2,j3,j4,_⟩:=h.joins f3 a1;refine ψ (zY w x q cap fv ds bs h.clu i E S ((h.own x).2 (τ rfl)) (λn r a=>n=((bs.length+1:Nat):Int)/\r=0/\Chg S w a/\∃l u t o B p,CluF a x l ⟨s.es,s.kn.set s.fs[i].dst (delK (s.kn.getD s.fs[i].dst []) s.fs[i].known),s.fs++[⟨s.fs[i].dst,s.fs[i].src,i+1,[],u⟩]⟩ q cap t o B D p/\(∀v,l v->S v\/w.heap.size<=v)/\DelD s ((i:Int)+1) ds o) (λa A j=>?_)) ?_
    .rw[f1,f2];refine ψ (Qq a (Y.Dv j (λk e=>by subst e;exact h.clu.x4)) x q cap fv ds bs A s.fs[i].dst f3 _ s.fs[i].src (cnt y.kn) V (H f4 G) W C2 rs a2 y3 U V V _ _ (λib cb lb=>xg U (h.tie _ f3) a1 h.evd (by rw[curs_at s ds _ f3]at y5;exact y5) (some ib) (some cb) (some lb) _ rfl rfl) j3 j2 (λhh=>(j4 hh).2)) ?_;rintro e w'⟨o,u,t,rfl,a4,M,a3,N,a6⟩;have a5:Chg S w w':=(j.wide (λk e=>(h.own k).2 (τ e))).trans (N.wide (λk b=>(h.own k).2 (by
      rcases b with b|b|b
      .exact τ b
      .exact υ (υ (τ b))
      .exact υ (υ (υ ⟨_,f3,b⟩)))))
     have hz:=j.size;refine⟨_,_,t,_,_,rfl,M,λd g=>⟨rfl,rfl,g, ?_⟩,a5⟩;obtain⟨l,p,h7,h8,L⟩:=h.came s.fs[i] i s.fs[i].dst (σ R) V f3 rfl f4 f5 G y2 hz a4 a3 d (λv Q=>(a6 v Q).imp id (λL=>ς hz L));refine⟨l,u,_,_,_,p,h7,h8, ?_⟩;unfold DelD;rw[c];dsimp only;rw[ύ m,ύ V];exact L.imp id (λh=>⟨h.1,f3,h.2⟩)
    .rintro e w'⟨n,r,rfl,rfl,rfl,d,l,u,t,o,B,p,g,X,h4⟩;refine⟨by rw[C],l,⟨s.es,s.kn.set s.fs[i].dst (delK (s.kn.getD s.fs[i].dst []) s.fs[i].known),s.fs++[⟨s.fs[i].dst,s.fs[i].src,i+1,[],u⟩]⟩,t,o,B,p,⟨rfl, ?_⟩,g,h4,X,d⟩;rw[c];dsimp only;rw[ύ (show ¬(0<s.fs[i].ack\/500<=s.fs.length)by omega)];exact⟨rfl,u,rfl⟩
 .have c:frNo s f=none:=by unfold frNo;rw[ύ (by rw[<- a0];exact hf)]
  refine ψ (NQ w x q cap fv ds bs h.clu f hf) ?_;rintro e w'⟨rfl,hC,j⟩;exact⟨by unfold delR;rw[c],S,s,fv,ds,bs,P,⟨rfl,by rw[c];exact⟨rfl,rfl⟩⟩,h.keep hC,by unfold DelD;rw[c],λk b=>τ b,h.sx j⟩
