import Derived.Test.YtfmmllpjgkgeaaaGreatDoorPartS37
import Derived.Test.YtfmmllpjgkgeaaaGreatDoorPartS38
set_option linter.unusedVariables false
set_option linter.unusedSimpArgs false
set_option maxHeartbeats 16000000
set_option maxRecDepth 100000
namespace Go.Proofs.YtfmmllpjgkgeaaaGreatDoor
section
open Go.RowKit
variable{i:Nat}
structure Hs where
 kn:List Bool
 K:Nat->Nat
 C:Nat->Option Thk.Ch
def Hs.le(a b:Hs):Prop:=∀i,a.kn.getD i false=true->b.kn.getD i false=true
def wu(K:Nat->Nat)(C:Nat->Option Thk.Ch):mV Thk.Ch:=⟨λd=>1<=nth d/\fst K d,C⟩
def Hs.jA(h:Hs):mV Thk.Ch:=wu h.K h.C
abbrev Hs.Ok(es:List Ev)(D:List Nat)(h:Hs):Prop:=Kn es D h.kn h.K h.C
theorem Hs.le.refl(a:Hs):a.le a:=λ_ h=>h
theorem Hs.le.trans{a b c:Hs}(h:a.le b)(k:b.le c):a.le c:=λi d=>k i (h i d)
section
variable{es:List Ev}{D:List Nat}{n:Nat}{k1 k2:List Bool}{K1 K2:Nat->Nat}{C1 C2:Nat->Option Thk.Ch}
theorem Kn.alv(h:Kn es D k1 K1 C1)(e:EvD es D n){d:Nat}(f:C1 d≠none):d∈D/\1<=nth d/\fst K1 d:=by obtain⟨i,g,a,c,_⟩:=h.sup f;have b:=List.mem_of_getElem? a;exact⟨b,(e.ok d b).2.1,(h.vec i d a).1 ((alive_iff es k1 i).1 c).2.1⟩
theorem alive_mono{i:Nat}(f:∀j,k1.getD j false=true->k2.getD j false=true)(e:k1.getD i false=true)(h:alive es k2 i=true):alive es k1 i=true:=by rw[alive_iff]at h⊢;exact⟨h.1,e,λd a b c=>h.2.2 d a b (f d c)⟩
theorem Kn.sle(h:Kn es D k1 K1 C1)(e:Kn es D k2 K2 C2)(m:EvD es D n)(g:∀l,k1.getD l false=true->k2.getD l false=true):(wu K1 C1).le (wu K2 C2):=by
 have k:∀d,(wu K1 C1).S d->∃i,D[i]?=some d/\k1.getD i false=true:=λd a=>by obtain⟨i,b,rfl⟩:=List.getElem_of_mem (h.mem a.1 a.2);have j:D[i]?=some D[i]:=σ b;exact⟨i,j,(h.vec i _ j).2 a.2⟩
 refine⟨λd a=>?_,λd a=>?_⟩
 .obtain⟨i,b,c⟩:=k d a;exact⟨a.1,(e.vec i d b).1 (g i c)⟩
 .obtain⟨i,b,c⟩:=k d a.1;refine⟨⟨a.1.1,(e.vec i d b).1 (g i c)⟩, ?_⟩;show C2 d=none;rw[e.c1 i d b];refine ύ λo=>?_;have p:=alive_mono g c o;have f:C1 d=none:=a.2;rw[h.c1 i d b,ώ p]at f;have q:i<es.length:=by rw[<- m.len];exact(List.getElem?_eq_some_iff.1 b).1
  rw[σ q]at f;cases f
theorem Kn.uniq(h:Kn es D k1 K1 C1)(c:Kn es D k2 K2 C2)(b:∀j,k1.getD j false=k2.getD j false):C1=C2/\∀d,1<=nth d->(fst K1 d↔fst K2 d):=by
 refine⟨?_,λd n=>?_⟩
 .funext d;by_cases l:d∈D
  .obtain⟨i,g,rfl⟩:=List.getElem_of_mem l;have a:D[i]?=some D[i]:=σ g;rw[h.c1 i _ a,c.c1 i _ a];by_cases e:alive es k1 i=true
   .have o:=((alive_iff es k1 i).1 e).2.1;rw[ώ e,ώ (alive_mono (k1:=k2) (k2:=k1) (λj k=>by rw[b];exact k) (by rw[<- b];exact o) e)]
   .rw[ύ e,ύ (λm=>e (alive_mono (k1:=k1) (k2:=k2) (λj k=>by rw[<- b];exact k) (by rw[b];exact((alive_iff es k2 i).1 m).2.1) m))]
  .rw[h.c2 d l,c.c2 d l]
 .constructor
  .intro f;obtain⟨i,g,rfl⟩:=List.getElem_of_mem (h.mem n f);have a:D[i]?=some D[i]:=σ g;exact(c.vec i _ a).1 (by rw[<- b];exact(h.vec i _ a).2 f)
  .intro f;obtain⟨i,g,rfl⟩:=List.getElem_of_mem (c.mem n f);have a:D[i]?=some D[i]:=σ g;exact(h.vec i _ a).1 (by rw[b];exact(c.vec i _ a).2 f)
theorem Kn.Ru(i:Kn es D k1 K1 C1)(j:Kn es D k2 K2 C2)(k:EvD es D n):mV.join (wu K2 C2) (wu K1 C1) (wu (gu K1 K2) (fD K1 C1 K2 C2)):=by
 have g:∀d,fst (gu K1 K2) d↔fst K1 d\/fst K2 d:=λd=>by unfold fst gu;omega
 refine⟨λd=>?_,λd=>?_,λd c f=>?_⟩
 .show(1<=nth d/\fst (gu K1 K2) d)↔(1<=nth d/\fst K2 d)\/(1<=nth d/\fst K1 d);rw[g];constructor
  .rintro⟨a,b|b⟩
   .exact υ ⟨a,b⟩
   .exact τ ⟨a,b⟩
  .rintro(⟨a,b⟩|⟨a,b⟩)
   .exact⟨a,υ b⟩
   .exact⟨a,τ b⟩
 .constructor
  .rintro⟨⟨a,b⟩,f⟩;have e:fD K1 C1 K2 C2 d=none:=f;by_cases g1:C1 d=none/\nth d<=K1 (who d)
   .exact υ ⟨⟨a,g1.2⟩,g1.1⟩
   by_cases g2:C2 d=none/\nth d<=K2 (who d)
   .exact τ ⟨⟨a,g2.2⟩,g2.1⟩
   unfold fD at e;rw[ύ (λi=>i.elim g1 g2)]at e;rw[Option.or_eq_none_iff]at e;rcases(g d).1 b with b|b
   .exact absurd ⟨e.1,b⟩ g1
   .exact absurd ⟨e.2,b⟩ g2
  .rintro(⟨⟨a,b⟩,f⟩|⟨⟨a,b⟩,f⟩)
   .exact⟨⟨a,(g d).2 (υ b)⟩,by show fD K1 C1 K2 C2 d=none;unfold fD;rw[ώ (υ ⟨f,b⟩)]⟩
   .exact⟨⟨a,(g d).2 (τ b)⟩,by show fD K1 C1 K2 C2 d=none;unfold fD;rw[ώ (τ ⟨f,b⟩)]⟩
 .have e:fD K1 C1 K2 C2 d=some c:=f;unfold fD at e;split at e
  .cases e
  .rcases Option.or_eq_some_iff.1 e with h|h
   .exact υ h
   .exact τ h.2
theorem mV.JR{j:Type}{a b r r':mV j}(h:mV.join a b r)(g:mV.join a b r')(k1:∀d,r.C d≠none->r.S d)(k2:∀d,r'.C d≠none->r'.S d)(k:∀d c f,a.C d=some c->b.C d=some f->c=f):r.C=r'.C:=by
 have key:∀{r r':mV j},mV.join a b r->mV.join a b r'->(∀d,r.C d≠none->r.S d)->∀d c,r.C d=some c->r'.C d≠none:=λ{r r'}h g k1 d c hc hn=>by have l:r.S d:=k1 d (by rw[hc];simp);have:r'.gone d:=⟨(g.1 d).2 ((h.1 d).1 l),hn⟩;have:=(h.2.1 d).2 ((g.2.1 d).1 this);rw[this.2]at hc;cases hc
 funext d;cases h1:r.C d with
 | none =>
  cases h2:r'.C d with
  | none=>rfl
  | some c=>exact absurd h1 (key g h k2 d c h2)
 | some c =>
  cases h2:r'.C d with
  | none=>exact absurd h2 (key h g k1 d c h1)
  | some f =>
   rcases h.2.2 d c h1 with i|i<;>rcases g.2.2 d f h2 with e|e
   .rw[i]at e;exact e
   .rw[k d c f i e]
   .rw[k d f c e i]
   .rw[i]at e;exact e
theorem xg{t:Nat->Prop}{a:Nat->Option Thk.Ch}{rs:List (Nat×Nat)}{a0:List (Nat×Thk.Bs)}(M:EncOf t a rs a0)(u:Kn es D k1 K1 C1)(y:Kn es D k2 K2 C2)(A:EvD es D n)(B:Brings ⟨λd=>1<=nth d/\t d,a⟩ (wu K2 C2) (wu K1 C1))(io co lo:Option Nat)(r:RD)(U:r.K=K1)(T:r.C=C1):oK ([⟨io,co,lo,λd=>itOf a d≠none\/d∈flatR rs,itOf a⟩]++[r.known]) (gu K1 K2) (fD K1 C1 K2 C2):=by
 subst U T;have w:∀(Q:StD->Prop),(∃s∈([⟨io,co,lo,λd=>itOf a d≠none\/d∈flatR rs,itOf a⟩]++[r.known]:List StD),Q s)↔Q ⟨io,co,lo,λd=>itOf a d≠none\/d∈flatR rs,itOf a⟩\/Q r.known:=λQ=>Ω
 have p:∀d,1<=nth d->((itOf a d≠none\/d∈flatR rs)↔t d):=λd h=>by rw[<- M.it];exact M.dots d h
 have P:=u.Ru y A;constructor
 .intro g X p1 p2;have G:∀d v,g d=some v->(itOf a d=some v\/itOf r.C d=some v)/\¬((itOf a d=none/\(itOf a d≠none\/d∈flatR rs))\/(itOf r.C d=none/\fst r.K d)):=λd v k=>by have:=p1 d v k;unfold aN at this;rw[w,w]at this;exact this
  have a1:∀d,(itOf a d≠none\/itOf r.C d≠none)->¬((itOf a d=none/\(itOf a d≠none\/d∈flatR rs))\/(itOf r.C d=none/\fst r.K d))->g d≠none:=λd e b=>by refine p2 d ((w _).2 e) (λq=>b ?_);unfold aN at q;rw[w]at q;exact q
  obtain⟨C',m⟩:∃C':Nat->Option Thk.Ch,∀d,(g d=none->C' d=none)/\(g d≠none->C' d=(a d).or (r.C d)):=by
   refine⟨λd=>(g d).bind λ_=>(a d).or (r.C d),λd=>⟨λh=>?_,λh=>?_⟩⟩
   .show(g d).bind _=none;rw[h];(first|done|rfl)
   .obtain⟨v,k⟩:=Option.ne_none_iff_exists'.1 h;show(g d).bind _=_;rw[k];(first|done|rfl)
  have Z:∀d c c',a d=some c->r.C d=some c'->c=c':=λd c c' e b=>by
   rcases B.c d c e with f|f
   .exact y.same u d c c' f b
   .have i:r.C d=none:=f.2;rw[i]at b;cases b
  have L:g=itOf C':=by
   funext d;cases k:g d with
   | none=>unfold itOf;rw[(m d).1 k];(first|done|rfl)
   | some v =>
    have f:=(m d).2 (by rw[k];simp);unfold itOf;rw[f];rcases(G d v k).1 with i|i
    .obtain⟨c,j,rfl⟩:=itOf_v i;rw[j];(first|done|rfl)
    .obtain⟨c,j,rfl⟩:=itOf_v i;cases hf:a d with
     | none=>rw[j];(first|done|rfl)
     | some S=>rw[Z d S c hf j];(first|done|rfl)
  have Y:∀d,C' d≠none->1<=nth d:=λd h=>(X d (λl=>h ((m d).1 l))).2.1;have W:mV.join ⟨λd=>1<=nth d/\t d,a⟩ (wu r.K r.C) ⟨λd=>1<=nth d/\(t d\/fst r.K d),C'⟩:=by
   refine⟨λd=>⟨?_, ?_⟩,λd=>⟨?_, ?_⟩,λd c j=>?_⟩
   .rintro⟨e,b|b⟩
    .exact τ ⟨e,b⟩
    .exact υ ⟨e,b⟩
   .rintro(⟨e,b⟩|⟨e,b⟩)
    .exact⟨e,τ b⟩
    .exact⟨e,υ b⟩
   .rintro⟨⟨e,b⟩,j⟩;have o:C' d=none:=j;refine Classical.byContradiction λR=>?_;have x:¬((itOf a d=none/\(itOf a d≠none\/d∈flatR rs))\/(itOf r.C d=none/\fst r.K d)):=by
     rintro(⟨H,K⟩|⟨H,K⟩)
     .exact R (τ ⟨⟨e,(p d e).1 K⟩,dK.1 H⟩)
     .exact R (υ ⟨⟨e,K⟩,dK.1 H⟩)
    have N:g d≠none:=a1 d (by
     rcases b with b|b
     .exact τ (λl=>x (τ ⟨l,(p d e).2 b⟩))
     .exact υ (λl=>x (υ ⟨l,b⟩))) x
    rw[L]at N;exact itOf_none.1 N o
   .intro q;have x:(itOf a d=none/\(itOf a d≠none\/d∈flatR rs))\/(itOf r.C d=none/\fst r.K d):=by
     rcases q with⟨⟨e,b⟩,c⟩|⟨⟨e,b⟩,c⟩
     .exact τ ⟨dK.2 c,(p d e).2 b⟩
     .exact υ ⟨dK.2 c,b⟩
    refine⟨by rcases q with⟨⟨e,b⟩,c⟩|⟨⟨e,b⟩,c⟩;exact⟨e,τ b⟩;exact⟨e,υ b⟩, ?_⟩;show C' d=none;refine(m d).1 ?_;cases k:g d with
    | none=>rfl
    | some v=>exact absurd x (G d v k).2
   .have o:C' d=some c:=j;have F:g d≠none:=λl=>by rw[(m d).1 l]at o;cases o
    rw[(m d).2 F]at o;rcases Option.or_eq_some_iff.1 o with f|f
    .exact τ f
    .exact υ f.2
  have hu:=mV.JR (B.join W) P (λd h=>?_) (λd h=>?_) (λd c c' e b=>y.same u d c c' e b)
  .rw[L];exact congrArg itOf hu
  .have F:g d≠none:=λl=>h ((m d).1 l);obtain⟨v,k⟩:=Option.ne_none_iff_exists'.1 F;have hd1:=Y d h;refine⟨hd1, ?_⟩;rcases(G d v k).1 with i|i
   .exact τ ((p d hd1).1 (τ (by rw[i];simp)))
   .obtain⟨c,j,_⟩:=itOf_v i;exact υ (u.alv A (by rw[j];simp)).2.2
  .obtain⟨c,j⟩:=Option.ne_none_iff_exists'.1 h;have C:fst r.K d\/fst K2 d->fst (gu r.K K2) d:=λh=>by unfold fst gu at *;omega
   rcases P.2.2 d c j with f|f
   .have:=y.alv A (d:=d) (by have E:C2 d=some c:=f;rw[E];simp);exact⟨this.2.1,C (υ this.2.2)⟩
   .have:=u.alv A (d:=d) (by have E:r.C d=some c:=f;rw[E];simp);exact⟨this.2.1,C (τ this.2.2)⟩
 .intro d h;rw[w];have C:fst (gu r.K K2) d↔fst r.K d\/fst K2 d:=by unfold fst gu;omega
  rw[C];constructor
  .rintro(f|f)
   .exact υ (B.a d ⟨h,(p d h).1 f⟩).2
   .exact τ f
  .rintro(f|f)
   .exact υ f
   .rcases B.b d ⟨h,f⟩with i|i
    .exact τ ((p d h).2 i.2)
    .exact υ i.2
theorem Kn.Qu(h:Kn es D k1 K1 C1)(a:EvD es D n)(u:n<=6)(s:es.length<=500)(i:∀e∈es,∃t,Thk.read t=.inr (jL e)):StoB (fst K1) C1:=by
 refine⟨λv q g=>?_,λk p=>?_,h.chs i,λk r o=>?_⟩
 .have:=nodup_le q (m:=D) (λd c=>h.mem (g d c).1 (g d c).2);rw[a.len]at this;omega
 .have b:=h.alv a p;have l:=a.ok k b.1;exact⟨⟨V,l.2.1,V⟩,b.2.2⟩
 .obtain⟨f,t,j⟩:=h.ch i o;have:=(txt_read j f).1;exact⟨by rw[this];exact j,f⟩
theorem Qv{c c':Thk.Ch}(i:ChOK c)(j:ChOK c')(e:chV c=chV c'):c=c':=by
 unfold chV at e;simp only[Value.agg.injEq]at e;have a:=congrArg Array.toList e;simp only[List.cons.injEq,Value.string.injEq,Value.int.injEq,true_and,and_true]at a;obtain⟨d,l,f,g⟩:=a;have h:c.act=c'.act:=UInt8.toNat_inj.1 V;have:txtC c=txtC c':=by unfold txtC;rw[d,f,g,h]
 have b:=i.2.1;have k:=j.2.1;rw[this,k]at b;exact(Sum.inr.inj b).symm
end
def newH(a b:Hs)(d:Nat):Prop:=fst b.K d/\¬(fst a.K d/\(b.C d=none↔a.C d=none))
open Classical in
noncomputable def newHC(a b:Hs)(d:Nat):Option Thk.Ch:=if newH a b d then b.C d else none
theorem DK{a b:Hs}{d:Nat}(h:newH a b d):newHC a b d=b.C d:=by unfold newHC;rw[ώ h]
theorem newHC_some{a b:Hs}{d:Nat}{c:Thk.Ch}(h:newHC a b d=some c):newH a b d/\b.C d=some c:=by
 unfold newHC at h;split at h
 .rename_i h1;exact⟨h1,h⟩
 .cases h
def qU(a b o:Hs):Prop:=∀d,1<=nth d->newH a b d->o.jA.S d/\(b.C d=none->o.jA.gone d)
theorem qU.later{a b o o':Hs}(h:qU a b o)(f:o.jA.le o'.jA):qU a b o':=λd c e=>⟨f.s d (h d c e).1,λg=>f.g d ((h d c e).2 g)⟩
structure PcIs(P:Hs->Prop)(i:Nat)(o:Nat->Hs)(p:PcD)(a b:Hs):Prop where
 pb:P b
 le:a.le b
 mark:p.mark=cnt b.kn
 s:p.st.S=newH a b
 it:p.st.It=itOf (newHC a b)
 fr:p.fr≠i->qU a b (o p.fr)
def ChainH(P:Hs->Prop)(i:Nat)(o:Nat->Hs):Hs->List PcD->Hs->Prop
 | s,[],t=>s=t
 | s,p::ps,t=>∃b,PcIs P i o p s b/\ChainH P i o b ps t
theorem PcIs.imp{P c:Hs->Prop}{o o':Nat->Hs}{p:PcD}{a b:Hs}(h:PcIs P i o p a b)(d:∀h,P h->c h)(f:∀j,(o j).jA.le (o' j).jA):PcIs c i o' p a b:=⟨d _ h.pb,h.le,h.mark,h.s,h.it,λe=>(h.fr e).later (f _)⟩
theorem ChainH.imp{P c:Hs->Prop}{o o':Nat->Hs}(d:∀h,P h->c h)(e:∀j,(o j).jA.le (o' j).jA):∀{a:List PcD}{s t:Hs},ChainH P i o s a t->ChainH c i o' s a t
 | [],_,_,h=>h
 | p::a,s,t,⟨b,h1,h2⟩=>⟨b,h1.imp d e,ChainH.imp d e h2⟩
theorem ChainH.snoc{P:Hs->Prop}{o:Nat->Hs}{p:PcD}{t u:Hs}(c:PcIs P i o p t u):∀{a:List PcD}{s:Hs},ChainH P i o s a t->ChainH P i o s (a++[p]) u
 | [],s,h=>by cases h;exact⟨u,c,rfl⟩
 | q::a,s,⟨b,h1,h2⟩=>⟨b,h1,ChainH.snoc c h2⟩
theorem ChainH.mem{P:Hs->Prop}{o:Nat->Hs}:∀{c:List PcD}{s t:Hs},ChainH P i o s c t->P s->∀p∈c,∃d b,P d/\PcIs P i o p d b
 | [],_,_,_,_,p,a=>by simp at a
 | q::c,s,t,⟨b,h1,h2⟩,hs,p,a=>by
  rcases List.mem_cons.1 a with rfl|a
  .exact⟨s,b,hs,h1⟩
  .exact ChainH.mem h2 h1.pb p a
theorem ChainH.came{P:Hs->Prop}{o:Nat->Hs}:∀{e:List PcD}{s t:Hs},ChainH P i o s e t->P s->∀d,t.jA.S d->s.jA.S d\/∃p∈e,∃c b,P c/\PcIs P i o p c b/\newH c b d
 | [],s,t,h,_,d,hd=>by cases h;exact τ hd
 | q::e,s,t,⟨b,h1,h2⟩,hs,d,hd=>by
  rcases ChainH.came h2 h1.pb d hd with a|⟨p,j,a⟩
  .by_cases f:s.jA.S d
   .exact τ f
   .exact υ ⟨q,Ω,s,b,hs,h1,a.2,λg=>f ⟨a.1,g.1⟩⟩
  .exact υ ⟨p,by simp[j],a⟩
theorem ChainH.gone{P:Hs->Prop}{o:Nat->Hs}:∀{e:List PcD}{s t:Hs},ChainH P i o s e t->P s->∀d,t.jA.gone d->s.jA.gone d\/∃p∈e,∃c b,P c/\PcIs P i o p c b/\newH c b d/\b.C d=none
 | [],s,t,h,_,d,hd=>by cases h;exact τ hd
 | q::e,s,t,⟨b,h1,h2⟩,hs,d,hd=>by
  rcases ChainH.gone h2 h1.pb d hd with a|⟨p,j,a⟩
  .by_cases g:s.jA.gone d
   .exact τ g
   .exact υ ⟨q,Ω,s,b,hs,h1,⟨a.1.2,λf=>g ⟨⟨a.1.1,f.1⟩,f.2.1 a.2⟩⟩,a.2⟩
  .exact υ ⟨p,by simp[j],a⟩
structure HistR(es:List Ev)(D:List Nat)(i:Nat)(P:Hs->Prop)(o:Nat->Hs)(cur:Hs)(r:RD):Prop where
 ok:∀h,P h->h.Ok es D
 nil:∃h,P h/\cnt h.kn=0
 now:P cur
 cK:cur.K=r.K
 cC:cur.C=r.C
 ord:∀h h',P h->P h'->cnt h.kn<=cnt h'.kn->h.le h'
 top:∀h,P h->h.le cur
 dr:∃s,P s/\cnt s.kn=r.dr/\ChainH P i o s r.ps cur
 ack:∀j,∃t,P t/\cnt t.kn=r.A j/\t.le (o j)
section
variable{es es':List Ev}{D D':List Nat}{n i:Nat}{P:Hs->Prop}{o o':Nat->Hs}{cur:Hs}{r:RD}
theorem HistR.step(h:HistR es D i P o cur r)(l:∀h,P h->h.Ok es D->h.Ok es' D')(a:∀j,(o j).jA.le (o' j).jA/\(o j).le (o' j)):HistR es' D' i P o' cur r:=by obtain⟨s,f,g,k⟩:=h.dr;exact⟨λx b=>l x b (h.ok x b),h.nil,h.now,h.cK,h.cC,h.ord,h.top,⟨s,f,g,k.imp (λ_ h=>h) (λj=>(a j).1)⟩,λj=>by obtain⟨t,c,d,e⟩:=h.ack j;exact⟨t,c,d,e.trans (a j).2⟩⟩
theorem Hs.cnt_le{a b:Hs}(c:a.Ok es D)(d:b.Ok es D)(h:a.le b):cnt a.kn<=cnt b.kn:=(mX a.kn b.kn es.length h c.len d.len).1
theorem HistR.add(h:HistR es D i P o cur r){cur':Hs}(C:cur'.Ok es D)(g:cur.le cur')(K:cnt cur.kn<cnt cur'.kn)(G:sizeK cur'.K=cnt cur'.kn){io co lo:Nat}{pv:Value}{fr:Nat}{st:StD}(w:st.S=dB r cur'.K cur'.C)(u:st.It=itOf (newC r cur'.K cur'.C))(B:fr≠i->qU cur cur' (o fr)):HistR es D i (λx=>P x\/x=cur') o cur' (r.more io co lo pv fr st cur'.K cur'.C):=by
 have v:∀x,P x->P x\/x=cur':=λx a=>τ a;obtain⟨s,d1,d2,d3⟩:=h.dr;have E:PcIs (λx=>P x\/x=cur') i o ⟨sizeK cur'.K,fr,st⟩ cur cur':=⟨υ rfl,g,G,by
  show st.S=_;rw[w];unfold dB newH;rw[h.cK,h.cC],by
  show st.It=_;rw[u];congr 1;funext d;unfold newC newHC;have:dB r cur'.K cur'.C d=newH cur cur' d:=by unfold dB newH;rw[h.cK,h.cC]
  rw[this],B⟩
 have f:=ChainH.snoc E (d3.imp v (λk=>mV.le.refl _));refine⟨λx a=>?_, ?_,υ rfl,rfl,rfl,λx y a b A=>?_,λx a=>?_, ?_,λk=>?_⟩
 .rcases a with a|rfl
  .exact h.ok x a
  .exact C
 .obtain⟨x,l,e⟩:=h.nil;exact⟨x,τ l,e⟩
 .rcases a with a|rfl<;>rcases b with b|rfl
  .exact h.ord x y a b A
  .exact(h.top x a).trans g
  .have:=Hs.cnt_le (h.ok y b) (h.ok cur h.now) (h.top y b);omega
  .exact Hs.le.refl _
 .rcases a with a|rfl
  .exact(h.top x a).trans g
  .exact Hs.le.refl _
 .show ∃s,(P s\/s=cur')/\cnt s.kn=addD r.room r.dr r.ps ⟨sizeK cur'.K,fr,st⟩/\ChainH (λx=>P x\/x=cur') i o s (addP r.room r.ps ⟨sizeK cur'.K,fr,st⟩) cur';unfold addD addP;by_cases c:r.room<r.ps.length+1
  .rw[ώ c,ώ c];generalize F:r.ps++[(⟨sizeK cur'.K,fr,st⟩:PcD)]=qs at f⊢;cases qs with
   | nil=>simp at F
   | cons q qs =>obtain⟨e,j,t⟩:=f;exact⟨e,j.pb,j.mark.symm,t⟩
  .rw[ύ c,ύ c];exact⟨s,τ d1,d2,f⟩
 .obtain⟨H,m,n,p⟩:=h.ack k;exact⟨H,τ m,n,p⟩
theorem HistR.acked(h:HistR es D i P o cur r)(j:Nat){t:Hs}(d:P t)(c:t.le (o j)):HistR es D i P o cur (r.ack j (cnt t.kn)):=by
 refine⟨h.ok,h.nil,h.now,h.cK,h.cC,h.ord,h.top,h.dr,λx=>?_⟩;show ∃u,P u/\cnt u.kn=(if x=j then max (r.A j) (cnt t.kn)else r.A x)/\u.le (o x);by_cases e:x=j
 .subst e;rw[ώ rfl];obtain⟨u,a,f,b⟩:=h.ack x;by_cases g:r.A x<=cnt t.kn
  .exact⟨t,d,V,c⟩
  .exact⟨u,a,V,b⟩
 .rw[ύ e];exact h.ack x
theorem wB{e:List Nat}{A:Nat->Nat}:∀{c:List PcD}{s:Hs}{a:Nat},P s->cnt s.kn=a->ChainH P i o s c cur->∃d,P d/\cnt d.kn=tickD e A a c/\ChainH P i o d (tickP e A c) cur
 | [],s,a,hs,hd,h=>⟨s,hs,hd,h⟩
 | p::c,s,a,hs,hd,⟨b,h1,h2⟩=>by
  unfold tickD tickP;split
  .exact wB h1.pb h1.mark.symm h2
  .exact⟨s,hs,hd,b,h1,h2⟩
theorem HistR.ticked(h:HistR es D i P o cur r){r':RD}(a:tickPP r r'):HistR es D i P o cur r':=by obtain⟨b,rfl⟩:=a;obtain⟨s,d1,d2,d3⟩:=h.dr;exact⟨h.ok,h.nil,h.now,h.cK,h.cC,h.ord,h.top,wB d1 d2 d3,h.ack⟩
theorem Hs.sle{a b:Hs}(d:a.Ok es D)(e:b.Ok es D)(c:EvD es D n)(h:a.le b):a.jA.le b.jA:=Kn.sle d e c h
theorem HistR.pcOK(h:HistR es D i P o cur r)(f:EvD es D n)(t:n<=6)(s:es.length<=500)(u:∀e∈es,∃w,Thk.read w=.inr (jL e)):Ql r:=by
 obtain⟨x,d1,d2,d3⟩:=h.dr;refine⟨λp c=>?_,λp c k q g=>?_⟩
 .obtain⟨d,b,l,a⟩:=d3.mem d1 p c;exact⟨newHC d b,a.it,λv j m=>((h.ok b a.pb).Qu f t s u).all v j (newHC_some m).2⟩
 .obtain⟨d,b,l,a⟩:=d3.mem d1 p c;rw[a.s]at g;rw[<- h.cK];exact((Hs.sle (h.ok b a.pb) (h.ok cur h.now) f (h.top b a.pb)).s k ⟨q,g.1⟩).2
theorem HistR.brings(h:HistR es D i P o cur r)(ad:EvD es D n)(hn:n<=6)(he:es.length<=500)(aa:∀u∈es,∃t,Thk.read t=.inr (jL u)){j:Nat}(hj:j≠i)(a8:(o j).Ok es D){S:Nat->Prop}{C:Nat->Option Thk.Ch}(hB:StoB S C)(a4:ND r j S C):Brings ⟨λd=>1<=nth d/\S d,C⟩ cur.jA (o j).jA:=by
 rcases a4 with⟨rfl,rfl,_⟩|⟨⟨ac,rfl,p1,p2⟩,_⟩
 .have:(⟨λd=>1<=nth d/\fst r.K d,r.C⟩:mV Thk.Ch)=cur.jA:=by unfold Hs.jA wu;rw[h.cK,h.cC]
  rw[this];exact Brings.whole _ _
 .obtain⟨w,d1,d2,d3⟩:=h.dr;obtain⟨t,t1,t2,t3⟩:=h.ack j;have Z:=h.ok cur h.now;have a3:t.jA.le (o j).jA:=Hs.sle (h.ok t t1) a8 ad t3;have N:w.jA.le (o j).jA:=(Hs.sle (h.ok w d1) (h.ok t t1) ad (h.ord w t d1 t1 V)).trans a3;have H:∀b,P b->b.jA.le cur.jA:=λb a=>Hs.sle (h.ok b a) Z ad (h.top b a);have key:∀p∈r.ps,∀f b,PcIs P i o p f b->p.st∈lackL j (r.A j) r.ps\/∀d,1<=nth d->newH f b d->(o j).jA.S d/\(b.C d=none->(o j).jA.gone d):=λp k f b a=>by
   by_cases M:p.mark<=r.A j
   .refine υ λd e g=>?_;have Q:b.jA.le (o j).jA:=(Hs.sle (h.ok b a.pb) (h.ok t t1) ad (h.ord b t a.pb t1 (by rw[<- a.mark,t2];exact M))).trans a3;exact⟨Q.s d ⟨e,g.1⟩,λm=>Q.g d ⟨⟨e,g.1⟩,m⟩⟩
   .by_cases L:p.fr=j
    .refine υ λd e g=>?_;have:=a.fr (by rw[L];exact hj);rw[L]at this;exact this d e g
    .refine τ ?_;unfold lackL;refine ι.2 ⟨p,List.mem_filter.2 ⟨k, ?_⟩,rfl⟩;simp[L];omega
  have a2:∀d v,itOf C d=some v->(∃w∈lackL j (r.A j) r.ps,w.It d=some v)/\¬aN (lackL j (r.A j) r.ps) d:=p1;have a0:∀p∈r.ps,∀f b d,PcIs P i o p f b->p.st∈lackL j (r.A j) r.ps->newH f b d->b.C d=none->aN (lackL j (r.A j) r.ps) d:=λp k f b d a M g m=>⟨p.st,M,by rw[a.it];exact dK.2 (by rw[DK g];exact m),by rw[a.s];exact g⟩;refine⟨λd e=>?_,λd e=>?_,λd c a7=>?_,λd e=>?_,λd e=>?_⟩
  .obtain⟨hd1,x,s,y⟩:=e;obtain⟨p,k,rfl,_⟩:=lackL_mem s;obtain⟨f,b,A,a⟩:=d3.mem d1 p k;rw[a.s]at y;exact(H b a.pb).s d ⟨hd1,y.1⟩
  .rcases d3.came d1 d e with E|⟨p,k,f,b,A,a,g⟩
   .exact υ (N.s d E)
   .rcases key p k f b a with l|l
    .exact τ ⟨e.1,p.st,l,by rw[a.s];exact g⟩
    .exact υ (l d e.1 g).1
  .have R:C d=some c:=a7;have hi:itOf C d=some (chV c):=by unfold itOf;rw[R];(first|done|rfl)
   obtain⟨⟨x,s,hv⟩,y9⟩:=a2 d _ hi;obtain⟨p,k,rfl,_⟩:=lackL_mem s;obtain⟨f,b,A,a⟩:=d3.mem d1 p k;rw[a.it]at hv;obtain⟨c',K,u⟩:=itOf_v hv;obtain⟨g,B⟩:=newHC_some K;have a5:c=c':=Qv (hB.all d c R) (((h.ok b a.pb).Qu ad hn he aa).all d c' B) u;subst a5;have hd1:=(h.ok b a.pb).alv ad (d:=d) (by rw[B];simp);have a6:=(H b a.pb).s d hd1.2;cases Uo:cur.C d with
   | some c2=>exact τ (by show cur.C d=some c;rw[Uo,(h.ok b a.pb).same Z d c c2 B Uo])
   | none =>
    refine υ ?_;rcases d3.gone d1 d ⟨a6,Uo⟩with h3|⟨q,hq,U,W,ab,X,T,Y⟩
    .exact N.g d h3
    .rcases key q hq U W X with F|F
     .exact absurd (a0 q hq U W d X F T Y) y9
     .exact(F d hd1.2.1 T).2 Y
  .obtain⟨⟨hd1,x,s,y⟩,m⟩:=e;have K:C d=none:=m;by_cases ae:aN (lackL j (r.A j) r.ps) d
   .obtain⟨s2,a9,a1,G⟩:=ae;obtain⟨p,k,rfl,_⟩:=lackL_mem a9;obtain⟨f,b,A,a⟩:=d3.mem d1 p k;rw[a.s]at G;rw[a.it]at a1;have:=dK.1 a1;rw[DK G]at this;exact(H b a.pb).g d ⟨⟨hd1,G.1⟩,this⟩
   .have:x.It d≠none:=λu=>ae ⟨x,s,u,y⟩;exact absurd (dK.2 K) (p2 d ⟨x,s,this⟩ ae)
  .rcases d3.gone d1 d e with E|⟨p,k,f,b,A,a,g,m⟩
   .exact υ (N.g d E)
   .rcases key p k f b a with l|l
    .have ae:=a0 p k f b d a l g m;refine τ ⟨⟨e.1.1,p.st,l,by rw[a.s];exact g⟩, ?_⟩;show C d=none;cases hcd:C d with
     | none=>rfl
     | some c=>exact absurd ae (a2 d (chV c) (by unfold itOf;rw[hcd];rfl)).2
    .exact υ ((l d e.1.1 g).2 m)
