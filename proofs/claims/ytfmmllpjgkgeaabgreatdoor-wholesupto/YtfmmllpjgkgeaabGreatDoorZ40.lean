import Derived.Test.YtfmmllpjgkgeaabGreatDoorZ38
import Derived.Test.YtfmmllpjgkgeaabGreatDoorZ39
set_option linter.all false
set_option maxHeartbeats 0
set_option maxRecDepth 100000
namespace Go.Proofs.YtfmmllpjgkgeaabGreatDoor
section
open Go.RowKit
variable{i:Nat}
structure Hs where
 kn:List Bool
 K:Nat->Nat
 C:Nat->Option Thk.Ch
def Hs.le(a b:Hs):Prop:=∀i,a.kn.getD i false=true->b.kn.getD i false=true
def Es(K:Nat->Nat)(C:Nat->Option Thk.Ch):qW Thk.Ch:=⟨λd=>1<=nth d/\fst K d,C⟩
def Hs.pG(h:Hs):qW Thk.Ch:=Es h.K h.C
abbrev Hs.Ok(es:List Ev)(D:List Nat)(h:Hs):Prop:=Kn es D h.kn h.K h.C
def Hs.le.refl(a:Hs):a.le a:=λ_ h=>h
def Hs.le.trans{a b c:Hs}(h:a.le b)(k:b.le c):a.le c:=λi d=>k i (h i d)
section
variable{es:List Ev}{D:List Nat}{n:Nat}{k1 k2:List Bool}{K1 K2:Nat->Nat}{C1 C2:Nat->Option Thk.Ch}
def Kn.alv(h:Kn es D k1 K1 C1)(e:uX es D n){d:Nat}(f:C1 d≠none):d∈D/\1<=nth d/\fst K1 d:=by obtain⟨i,g,a,c,_⟩:=h.sup f;have b:=ϑC a;exact⟨b,(e.ok d b).1,(h.vec i d a).1 ((bZ es k1 i).1 c).2.1⟩
def qE{i:Nat}(f:∀j,k1.getD j false=true->k2.getD j false=true)(e:k1.getD i false=true)(h:alive es k2 i=true):alive es k1 i=true:=by rw[bZ]at h⊢;exact⟨h.1,e,λd a b c=>h.2.2 d a b (f d c)⟩
def Kn.sle(h:Kn es D k1 K1 C1)(e:Kn es D k2 K2 C2)(m:uX es D n)(g:∀l,k1.getD l false=true->k2.getD l false=true):(Es K1 C1).le (Es K2 C2):=by
 have k:∀d,(Es K1 C1).S d->∃i,D[i]?=some d/\k1.getD i false=true:=λd a=>by obtain⟨i,b,rfl⟩:=ϑd (h.mem a.1 a.2);have j:=σ b;exact⟨i,j,(h.vec i _ j).2 a.2⟩
 refine⟨λd a=>?_,λd a=>?_⟩
 .obtain⟨i,b,c⟩:=k d a;exact⟨a.1,(e.vec i d b).1 (g i c)⟩
 .obtain⟨i,b,c⟩:=k d a.1;refine⟨⟨a.1.1,(e.vec i d b).1 (g i c)⟩, ?_⟩;show C2 d=none;rw[e.c1 i d b];refine ύ λo=>?_;have p:=qE g c o;have f:C1 d=none:=a.2;rw[h.c1 i d b,ώ p]at f;have q:i<es.length:=by rw[<- m.len];exact(ϑn.1 b).1
  rw[σ q]at f;cases f
def Kn.uniq(h:Kn es D k1 K1 C1)(c:Kn es D k2 K2 C2)(b:∀j,k1.getD j false=k2.getD j false):C1=C2/\∀d,1<=nth d->(fst K1 d↔fst K2 d):=by
 refine⟨?_,λd n=>?_⟩
 .funext d;by_cases l:d∈D
  .obtain⟨i,g,rfl⟩:=ϑd l;have a:=σ g;rw[h.c1 i _ a,c.c1 i _ a];by_cases e:alive es k1 i=true
   .have o:=((bZ es k1 i).1 e).2.1;rw[ώ e,ώ (qE (k1:=k2) (k2:=k1) (λj k=>by rw[b];exact k) (by rw[<- b];exact o) e)]
   .rw[ύ e,ύ (λm=>e (qE (k1:=k1) (k2:=k2) (λj k=>by rw[<- b];exact k) (by rw[b];exact((bZ es k2 i).1 m).2.1) m))]
  .rw[h.c2 d l,c.c2 d l]
 .constructor
  .intro f;obtain⟨i,g,rfl⟩:=ϑd (h.mem n f);have a:=σ g;exact(c.vec i _ a).1 (by rw[<- b];exact(h.vec i _ a).2 f)
  .intro f;obtain⟨i,g,rfl⟩:=ϑd (c.mem n f);have a:=σ g;exact(h.vec i _ a).1 (by rw[b];exact(c.vec i _ a).2 f)
def Kn.ad8(i:Kn es D k1 K1 C1)(j:Kn es D k2 K2 C2)(k:uX es D n):qW.join (Es K2 C2) (Es K1 C1) (Es (jJ K1 K2) (jC K1 C1 K2 C2)):=by
 have g:∀d,fst (jJ K1 K2) d↔fst K1 d\/fst K2 d:=λd=>by unfold fst jJ;omega
 refine⟨λd=>?_,λd=>?_,λd c f=>?_⟩
 .show(1<=nth d/\fst (jJ K1 K2) d)↔(1<=nth d/\fst K2 d)\/(1<=nth d/\fst K1 d);rw[g];constructor
  .rintro⟨a,b|b⟩
   .exact υ ⟨a,b⟩
   .exact τ ⟨a,b⟩
  .rintro(⟨a,b⟩|⟨a,b⟩)
   .exact⟨a,υ b⟩
   .exact⟨a,τ b⟩
 .constructor
  .rintro⟨⟨a,b⟩,f⟩;have e:jC K1 C1 K2 C2 d=none:=f;by_cases g1:C1 d=none/\nth d<=K1 (who d)
   .exact υ ⟨⟨a,g1.2⟩,g1.1⟩
   by_cases g2:C2 d=none/\nth d<=K2 (who d)
   .exact τ ⟨⟨a,g2.2⟩,g2.1⟩
   unfold jC at e;rw[ύ (λi=>i.elim g1 g2)]at e;rw[Option.or_eq_none_iff]at e;rcases(g d).1 b with b|b
   .exact absurd ⟨e.1,b⟩ g1
   .exact absurd ⟨e.2,b⟩ g2
  .rintro(⟨⟨a,b⟩,f⟩|⟨⟨a,b⟩,f⟩)
   .exact⟨⟨a,(g d).2 (υ b)⟩,by show jC K1 C1 K2 C2 d=none;unfold jC;rw[ώ (υ ⟨f,b⟩)]⟩
   .exact⟨⟨a,(g d).2 (τ b)⟩,by show jC K1 C1 K2 C2 d=none;unfold jC;rw[ώ (τ ⟨f,b⟩)]⟩
 .have e:jC K1 C1 K2 C2 d=some c:=f;unfold jC at e;split at e
  .cases e
  .rcases Option.or_eq_some_iff.1 e with h|h
   .exact υ h
   .exact τ h.2
def qW.UU{j:Type}{a b r r':qW j}(h:qW.join a b r)(g:qW.join a b r')(k1:∀d,r.C d≠none->r.S d)(k2:∀d,r'.C d≠none->r'.S d)(k:∀d c f,a.C d=some c->b.C d=some f->c=f):r.C=r'.C:=by
 have key:∀{r r':qW j},qW.join a b r->qW.join a b r'->(∀d,r.C d≠none->r.S d)->∀d c,r.C d=some c->r'.C d≠none:=λ{r r'}h g k1 d c hc hn=>by have l:r.S d:=k1 d (by rw[hc];simp);have:r'.gone d:=⟨(g.1 d).2 ((h.1 d).1 l),hn⟩;have:=(h.2.1 d).2 ((g.2.1 d).1 this);rw[this.2]at hc;cases hc
 funext d;cases h1:r.C d with
 | none =>
  cases h2:r'.C d with
  | none=>rfl
  | some c=>exact absurd h1 (key g h k2 d c h2)
 | some c =>
  cases h2:r'.C d with
  | none=>exact absurd h2 (key h g k1 d c h1)
  | some f =>
   rcases h.2.2 d c h1 with i|i<;>rcases g.2.2 d f h2 with e|e
   .rw[i]at e;exact e
   .rw[k d c f i e]
   .rw[k d f c e i]
   .rw[i]at e;exact e
def FM{u:Nat->Prop}{a:Nat->Option Thk.Ch}{rs:List (Nat×Nat)}{a0:List (Nat×Thk.Bs)}(M:dW u a rs a0)(w:Kn es D k1 K1 C1)(y:Kn es D k2 K2 C2)(A:uX es D n)(B:Brings ⟨λd=>1<=nth d/\u d,a⟩ (Es K2 C2) (Es K1 C1))(io co lo:Option Nat)(r:RD)(U:r.K=K1)(T:r.C=C1):wY ([⟨io,co,lo,λd=>aU a d≠none\/d∈bP rs,aU a⟩]++[r.known]) (jJ K1 K2) (jC K1 C1 K2 C2):=by
 subst U T;have x:∀(Q:jF->Prop),(∃s∈([⟨io,co,lo,λd=>aU a d≠none\/d∈bP rs,aU a⟩]++[r.known]:List jF),Q s)↔Q ⟨io,co,lo,λd=>aU a d≠none\/d∈bP rs,aU a⟩\/Q r.known:=λQ=>Ω
 have p:∀d,1<=nth d->((aU a d≠none\/d∈bP rs)↔u d):=λd h=>by rw[<- M.it];exact M.dots d h
 have P:=w.ad8 y A;constructor
 .intro g X p1 p2;have G:∀d v,g d=some v->(aU a d=some v\/aU r.C d=some v)/\¬((aU a d=none/\(aU a d≠none\/d∈bP rs))\/(aU r.C d=none/\fst r.K d)):=λd v k=>by have:=p1 d v k;unfold dA at this;rw[x,x]at this;exact this
  have a1:∀d,(aU a d≠none\/aU r.C d≠none)->¬((aU a d=none/\(aU a d≠none\/d∈bP rs))\/(aU r.C d=none/\fst r.K d))->g d≠none:=λd e b=>by refine p2 d ((x _).2 e) (λq=>b ?_);unfold dA at q;rw[x]at q;exact q
  obtain⟨C',m⟩:∃C':Nat->Option Thk.Ch,∀d,(g d=none->C' d=none)/\(g d≠none->C' d=(a d).or (r.C d)):=by
   refine⟨λd=>(g d).bind λ_=>(a d).or (r.C d),λd=>⟨λh=>?_,λh=>?_⟩⟩
   .show(g d).bind _=none;rw[h];(first|done|rfl)
   .obtain⟨v,k⟩:=Option.ne_none_iff_exists'.1 h;show(g d).bind _=_;rw[k];(first|done|rfl)
  have Z:∀d c c',a d=some c->r.C d=some c'->c=c':=λd c c' e b=>by
   rcases B.c d c e with f|f
   .exact y.same w d c c' f b
   .have i:r.C d=none:=f.2;rw[i]at b;cases b
  have L:g=aU C':=by
   funext d;cases k:g d with
   | none=>unfold aU;rw[(m d).1 k];(first|done|rfl)
   | some v =>
    have f:=(m d).2 (by rw[k];simp);unfold aU;rw[f];rcases(G d v k).1 with i|i
    .obtain⟨c,j,rfl⟩:=oK i;rw[j];(first|done|rfl)
    .obtain⟨c,j,rfl⟩:=oK i;cases hf:a d with
     | none=>rw[j];(first|done|rfl)
     | some S=>rw[Z d S c hf j];(first|done|rfl)
  have Y:∀d,C' d≠none->1<=nth d:=λd h=>(X d (λl=>h ((m d).1 l))).2.1;have W:qW.join ⟨λd=>1<=nth d/\u d,a⟩ (Es r.K r.C) ⟨λd=>1<=nth d/\(u d\/fst r.K d),C'⟩:=by
   refine⟨λd=>⟨?_, ?_⟩,λd=>⟨?_, ?_⟩,λd c j=>?_⟩
   .rintro⟨e,b|b⟩
    .exact τ ⟨e,b⟩
    .exact υ ⟨e,b⟩
   .rintro(⟨e,b⟩|⟨e,b⟩)
    .exact⟨e,τ b⟩
    .exact⟨e,υ b⟩
   .rintro⟨⟨e,b⟩,j⟩;have o:C' d=none:=j;refine ϑc λR=>?_;have t:¬((aU a d=none/\(aU a d≠none\/d∈bP rs))\/(aU r.C d=none/\fst r.K d)):=by
     rintro(⟨H,K⟩|⟨H,K⟩)
     .exact R (τ ⟨⟨e,(p d e).1 K⟩,gX.1 H⟩)
     .exact R (υ ⟨⟨e,K⟩,gX.1 H⟩)
    have N:g d≠none:=a1 d (by
     rcases b with b|b
     .exact τ (λl=>t (τ ⟨l,(p d e).2 b⟩))
     .exact υ (λl=>t (υ ⟨l,b⟩))) t
    rw[L]at N;exact dO.1 N o
   .intro q;have t:(aU a d=none/\(aU a d≠none\/d∈bP rs))\/(aU r.C d=none/\fst r.K d):=by
     rcases q with⟨⟨e,b⟩,c⟩|⟨⟨e,b⟩,c⟩
     .exact τ ⟨gX.2 c,(p d e).2 b⟩
     .exact υ ⟨gX.2 c,b⟩
    refine⟨by rcases q with⟨⟨e,b⟩,c⟩|⟨⟨e,b⟩,c⟩;exact⟨e,τ b⟩;exact⟨e,υ b⟩, ?_⟩;show C' d=none;refine(m d).1 ?_;cases k:g d with
    | none=>rfl
    | some v=>exact absurd t (G d v k).2
   .have o:C' d=some c:=j;have F:g d≠none:=λl=>by rw[(m d).1 l]at o;cases o
    rw[(m d).2 F]at o;rcases Option.or_eq_some_iff.1 o with f|f
    .exact τ f
    .exact υ f.2
  have hu:=qW.UU (B.join W) P (λd h=>?_) (λd h=>?_) (λd c c' e b=>y.same w d c c' e b)
  .rw[L];exact congrArg aU hu
  .have F:g d≠none:=λl=>h ((m d).1 l);obtain⟨v,k⟩:=Option.ne_none_iff_exists'.1 F;have hd1:=Y d h;refine⟨hd1, ?_⟩;rcases(G d v k).1 with i|i
   .exact τ ((p d hd1).1 (τ (by rw[i];simp)))
   .obtain⟨c,j,_⟩:=oK i;exact υ (w.alv A (by rw[j];simp)).2.2
  .obtain⟨c,j⟩:=Option.ne_none_iff_exists'.1 h;have C:fst r.K d\/fst K2 d->fst (jJ r.K K2) d:=λh=>by unfold fst jJ at *;omega
   rcases P.2.2 d c j with f|f
   .have:=y.alv A (d:=d) (by have E:C2 d=some c:=f;rw[E];simp);exact⟨this.2.1,C (υ this.2.2)⟩
   .have:=w.alv A (d:=d) (by have E:r.C d=some c:=f;rw[E];simp);exact⟨this.2.1,C (τ this.2.2)⟩
 .intro d h;rw[x];have C:fst (jJ r.K K2) d↔fst r.K d\/fst K2 d:=by unfold fst jJ;omega
  rw[C];constructor
  .rintro(f|f)
   .exact υ (B.a d ⟨h,(p d h).1 f⟩).2
   .exact τ f
  .rintro(f|f)
   .exact υ f
   .rcases B.b d ⟨h,f⟩with i|i
    .exact τ ((p d h).2 i.2)
    .exact υ i.2
def Kn.UW(h:Kn es D k1 K1 C1)(b:uX es D n)(s:n<=6)(r:kH D<=505)(i:∀e∈es,∃t,Thk.read t=.inr (nM e)):jT (fst K1) C1:=by
 refine⟨λu o f=>?_,λk m=>?_,h.chs i,λk p l=>?_⟩
 .have:=h.real b o (λd c=>⟨h.mem (f d c).1 (f d c).2,(f d c).2⟩);omega
 .have a:=h.alv b m;have q:=(b.ok k a.1).2 (h.w6 a.2.1 a.2.2);exact⟨⟨V,a.2.1,V⟩,a.2.2⟩
 .obtain⟨g,t,j⟩:=h.ch i l;have:=(Ep j g).1;exact⟨by rw[this];exact j,g⟩
def aa1{c c':Thk.Ch}(i:P9 c)(j:P9 c')(e:sK c=sK c'):c=c':=by
 unfold sK at e;simp only[Value.agg.injEq]at e;have a:=congrArg Array.toList e;simp only[List.cons.injEq,Value.string.injEq,Value.int.injEq,ϑM,ϑN]at a;obtain⟨d,l,f,g⟩:=a;have h:c.act=c'.act:=UInt8.toNat_inj.1 V;have:lW c=lW c':=by unfold lW;rw[d,f,g,h]
 have b:=i.2.1;have k:=j.2.1;rw[this,k]at b;exact(Sum.inr.inj b).symm
end
def newH(a b:Hs)(d:Nat):Prop:=fst b.K d/\¬(fst a.K d/\(b.C d=none↔a.C d=none))
open Classical in
noncomputable def AO(a b:Hs)(d:Nat):Option Thk.Ch:=if newH a b d then b.C d else none
def Nq{a b:Hs}{d:Nat}(h:newH a b d):AO a b d=b.C d:=by unfold AO;rw[ώ h]
def xu{a b:Hs}{d:Nat}{c:Thk.Ch}(h:AO a b d=some c):newH a b d/\b.C d=some c:=by
 unfold AO at h;split at h
 .rename_i h1;exact⟨h1,h⟩
 .cases h
def zT(a b o:Hs):Prop:=∀d,1<=nth d->newH a b d->o.pG.S d/\(b.C d=none->o.pG.gone d)
def zT.later{a b o o':Hs}(h:zT a b o)(f:o.pG.le o'.pG):zT a b o':=λd c e=>⟨f.s d (h d c e).1,λg=>f.g d ((h d c e).2 g)⟩
structure Bh(P:Hs->Prop)(i:Nat)(o:Nat->Hs)(p:iJ)(a b:Hs):Prop where
 pb:P b
 le:a.le b
 mark:p.mark=cnt b.kn
 s:p.st.S=newH a b
 it:p.st.It=aU (AO a b)
 fr:p.fr≠i->zT a b (o p.fr)
def eU(P:Hs->Prop)(i:Nat)(o:Nat->Hs):Hs->List iJ->Hs->Prop
 | s,[],t=>s=t
 | s,p::ps,t=>∃b,Bh P i o p s b/\eU P i o b ps t
def Bh.imp{P c:Hs->Prop}{o o':Nat->Hs}{p:iJ}{a b:Hs}(h:Bh P i o p a b)(d:∀h,P h->c h)(f:∀j,(o j).pG.le (o' j).pG):Bh c i o' p a b:=⟨d _ h.pb,h.le,h.mark,h.s,h.it,λe=>(h.fr e).later (f _)⟩
def eU.imp{P c:Hs->Prop}{o o':Nat->Hs}(d:∀h,P h->c h)(e:∀j,(o j).pG.le (o' j).pG):∀{a:List iJ}{s t:Hs},eU P i o s a t->eU c i o' s a t
 | [],_,_,h=>h
 | p::a,s,t,⟨b,h1,h2⟩=>⟨b,h1.imp d e,eU.imp d e h2⟩
def eU.snoc{P:Hs->Prop}{o:Nat->Hs}{p:iJ}{t u:Hs}(c:Bh P i o p t u):∀{a:List iJ}{s:Hs},eU P i o s a t->eU P i o s (a++[p]) u
 | [],s,h=>by cases h;exact⟨u,c,rfl⟩
 | q::a,s,⟨b,h1,h2⟩=>⟨b,h1,eU.snoc c h2⟩
def eU.mem{P:Hs->Prop}{o:Nat->Hs}:∀{c:List iJ}{s t:Hs},eU P i o s c t->P s->∀p∈c,∃d b,P d/\Bh P i o p d b
 | [],_,_,_,_,p,a=>by simp at a
 | q::c,s,t,⟨b,h1,h2⟩,hs,p,a=>by
  rcases ϑL.1 a with rfl|a
  .exact⟨s,b,hs,h1⟩
  .exact eU.mem h2 h1.pb p a
def eU.came{P:Hs->Prop}{o:Nat->Hs}:∀{e:List iJ}{s t:Hs},eU P i o s e t->P s->∀d,t.pG.S d->s.pG.S d\/∃p∈e,∃c b,P c/\Bh P i o p c b/\newH c b d
 | [],s,t,h,_,d,hd=>by cases h;exact τ hd
 | q::e,s,t,⟨b,h1,h2⟩,hs,d,hd=>by
  rcases eU.came h2 h1.pb d hd with a|⟨p,j,a⟩
  .by_cases f:s.pG.S d
   .exact τ f
   .exact υ ⟨q,Ω,s,b,hs,h1,a.2,λg=>f ⟨a.1,g.1⟩⟩
  .exact υ ⟨p,by simp[j],a⟩
def eU.gone{P:Hs->Prop}{o:Nat->Hs}:∀{e:List iJ}{s t:Hs},eU P i o s e t->P s->∀d,t.pG.gone d->s.pG.gone d\/∃p∈e,∃c b,P c/\Bh P i o p c b/\newH c b d/\b.C d=none
 | [],s,t,h,_,d,hd=>by cases h;exact τ hd
 | q::e,s,t,⟨b,h1,h2⟩,hs,d,hd=>by
  rcases eU.gone h2 h1.pb d hd with a|⟨p,j,a⟩
  .by_cases g:s.pG.gone d
   .exact τ g
   .exact υ ⟨q,Ω,s,b,hs,h1,⟨a.1.2,λf=>g ⟨⟨a.1.1,f.1⟩,f.2.1 a.2⟩⟩,a.2⟩
  .exact υ ⟨p,by simp[j],a⟩
structure iH(es:List Ev)(D:List Nat)(i:Nat)(P:Hs->Prop)(o:Nat->Hs)(cur:Hs)(r:RD):Prop where
 ok:∀h,P h->h.Ok es D
 nil:∃h,P h/\cnt h.kn=0
 now:P cur
 cK:cur.K=r.K
 cC:cur.C=r.C
 ord:∀h h',P h->P h'->cnt h.kn<=cnt h'.kn->h.le h'
 top:∀h,P h->h.le cur
 dr:∃s,P s/\cnt s.kn=r.dr/\eU P i o s r.ps cur
 ack:∀j,∃t,P t/\cnt t.kn=r.A j/\t.le (o j)
section
variable{es es':List Ev}{D D':List Nat}{n i:Nat}{P:Hs->Prop}{o o':Nat->Hs}{cur:Hs}{r:RD}
def iH.step(h:iH es D i P o cur r)(l:∀h,P h->h.Ok es D->h.Ok es' D')(a:∀j,(o j).pG.le (o' j).pG/\(o j).le (o' j)):iH es' D' i P o' cur r:=by obtain⟨s,f,g,k⟩:=h.dr;exact⟨λx b=>l x b (h.ok x b),h.nil,h.now,h.cK,h.cC,h.ord,h.top,⟨s,f,g,k.imp (λ_ h=>h) (λj=>(a j).1)⟩,λj=>by obtain⟨t,c,d,e⟩:=h.ack j;exact⟨t,c,d,e.trans (a j).2⟩⟩
def Hs.cnt_le{a b:Hs}(c:a.Ok es D)(d:b.Ok es D)(h:a.le b):cnt a.kn<=cnt b.kn:=(uK a.kn b.kn es.length h c.len d.len).1
def iH.add(h:iH es D i P o cur r){cur':Hs}(C:cur'.Ok es D)(g:cur.le cur')(K:cnt cur.kn<cnt cur'.kn)(G:aF cur'.K=cnt cur'.kn){io co lo:Nat}{pv:Value}{fr:Nat}{st:jF}(w:st.S=eY r cur'.K cur'.C)(u:st.It=aU (newC r cur'.K cur'.C))(B:fr≠i->zT cur cur' (o fr)):iH es D i (λx=>P x\/x=cur') o cur' (r.more io co lo pv fr st cur'.K cur'.C):=by
 have v:∀x,P x->P x\/x=cur':=λx a=>τ a;obtain⟨s,d1,d2,d3⟩:=h.dr;have E:Bh (λx=>P x\/x=cur') i o ⟨aF cur'.K,fr,st⟩ cur cur':=⟨υ rfl,g,G,by
  show st.S=_;rw[w];unfold eY newH;rw[h.cK,h.cC],by
  show st.It=_;rw[u];congr 1;funext d;unfold newC AO;have:eY r cur'.K cur'.C d=newH cur cur' d:=by unfold eY newH;rw[h.cK,h.cC]
  rw[this],B⟩
 have f:=eU.snoc E (d3.imp v (λk=>qW.le.refl _));refine⟨λx a=>?_, ?_,υ rfl,rfl,rfl,λx y a b A=>?_,λx a=>?_, ?_,λk=>?_⟩
 .rcases a with a|rfl
  .exact h.ok x a
  .exact C
 .obtain⟨x,l,e⟩:=h.nil;exact⟨x,τ l,e⟩
 .rcases a with a|rfl<;>rcases b with b|rfl
  .exact h.ord x y a b A
  .exact(h.top x a).trans g
  .have:=Hs.cnt_le (h.ok y b) (h.ok cur h.now) (h.top y b);omega
  .exact Hs.le.refl _
 .rcases a with a|rfl
  .exact(h.top x a).trans g
  .exact Hs.le.refl _
 .show ∃s,(P s\/s=cur')/\cnt s.kn=vG r.room r.dr r.ps ⟨aF cur'.K,fr,st⟩/\eU (λx=>P x\/x=cur') i o s (qU r.room r.ps ⟨aF cur'.K,fr,st⟩) cur';unfold vG qU;by_cases c:r.room<r.ps.length+1
  .rw[ώ c,ώ c];generalize F:r.ps++[(⟨aF cur'.K,fr,st⟩:iJ)]=qs at f⊢;cases qs with
   | nil=>simp at F
   | cons q qs =>obtain⟨e,j,t⟩:=f;exact⟨e,j.pb,j.mark.symm,t⟩
  .rw[ύ c,ύ c];exact⟨s,τ d1,d2,f⟩
 .obtain⟨H,m,n,p⟩:=h.ack k;exact⟨H,τ m,n,p⟩
def iH.Gl(h:iH es D i P o cur r)(j:Nat){t:Hs}(d:P t)(c:t.le (o j)):iH es D i P o cur (r.ack j (cnt t.kn)):=by
 refine⟨h.ok,h.nil,h.now,h.cK,h.cC,h.ord,h.top,h.dr,λx=>?_⟩;show ∃u,P u/\cnt u.kn=(if x=j then max (r.A j) (cnt t.kn)else r.A x)/\u.le (o x);by_cases e:x=j
 .subst e;rw[ώ rfl];obtain⟨u,a,f,b⟩:=h.ack x;by_cases g:r.A x<=cnt t.kn
  .exact⟨t,d,V,c⟩
  .exact⟨u,a,V,b⟩
 .rw[ύ e];exact h.ack x
def iH.lost(h:iH es D i P o cur r){a:Hs}(c:a.Ok es D)(k:cur.le a)(l:cnt cur.kn<cnt a.kn\/a=cur)(w:aF a.K=cnt a.kn){r':RD}(t:r'.K=a.K)(s:r'.C=a.C)(u:r'.dr=aF a.K)(v:r'.ps=[])(q:r'.A=λ_=>0):iH es D i (λx=>P x\/x=a) o a r':=by
 obtain⟨e,m,n⟩:=h.nil;refine⟨λx b=>b.elim (h.ok x) (λf=>f▸c),⟨e,τ m,n⟩,υ rfl,t.symm,s.symm,λx y b d g=>?_,λx b=>?_,⟨a,υ rfl,by rw[u,w],by rw[v];rfl⟩,λC=>⟨e,τ m,by rw[q];exact n,λp c=>?_⟩⟩
 .rcases b with b|rfl<;>rcases d with d|rfl
  .exact h.ord x y b d g
  .exact(h.top x b).trans k
  .rcases l with l|rfl
   .have:=Hs.cnt_le (h.ok y d) (h.ok cur h.now) (h.top y d);omega
   .exact h.ord _ _ h.now d g
  .exact Hs.le.refl _
 .rcases b with b|rfl
  .exact(h.top x b).trans k
  .exact Hs.le.refl _
 .exfalso;have B:0<cnt e.kn:=by
   unfold cnt;rw[List.length_pos_iff];intro f;rw[List.filter_eq_nil_iff]at f;have j:p<e.kn.length:=ϑc λA=>by rw[iT V]at c;cases c
   rw[ξ,σ j]at c;exact f e.kn[p] (κ j) c
  omega
def Et{e:List Nat}{A:Nat->Nat}:∀{c:List iJ}{s:Hs}{a:Nat},P s->cnt s.kn=a->eU P i o s c cur->∃d,P d/\cnt d.kn=nH e A a c/\eU P i o d (gG e A c) cur
 | [],s,a,hs,hd,h=>⟨s,hs,hd,h⟩
 | p::c,s,a,hs,hd,⟨b,h1,h2⟩=>by
  unfold nH gG;split
  .exact Et h1.pb h1.mark.symm h2
  .exact⟨s,hs,hd,b,h1,h2⟩
def iH.Ql(h:iH es D i P o cur r){r':RD}(a:Jt r r'):iH es D i P o cur r':=by obtain⟨b,rfl⟩:=a;obtain⟨s,d1,d2,d3⟩:=h.dr;exact⟨h.ok,h.nil,h.now,h.cK,h.cC,h.ord,h.top,Et d1 d2 d3,h.ack⟩
def Hs.sle{a b:Hs}(d:a.Ok es D)(e:b.Ok es D)(c:uX es D n)(h:a.le b):a.pG.le b.pG:=Kn.sle d e c h
def iH.aD2(h:iH es D i P o cur r)(f:uX es D n)(t:n<=6)(s:kH D<=505)(u:∀e∈es,∃w,Thk.read w=.inr (nM e)):aj9 r:=by
 obtain⟨x,d1,d2,d3⟩:=h.dr;refine⟨λp c=>?_,λp c k q g=>?_⟩
 .obtain⟨d,b,l,a⟩:=d3.mem d1 p c;exact⟨AO d b,a.it,λv j m=>((h.ok b a.pb).UW f t s u).all v j (xu m).2⟩
 .obtain⟨d,b,l,a⟩:=d3.mem d1 p c;rw[a.s]at g;rw[<- h.cK];exact((Hs.sle (h.ok b a.pb) (h.ok cur h.now) f (h.top b a.pb)).s k ⟨q,g.1⟩).2
def iH.brings(h:iH es D i P o cur r)(ac:uX es D n)(hn:n<=6)(he:kH D<=505)(a9:∀u∈es,∃t,Thk.read t=.inr (nM u)){j:Nat}(hj:j≠i)(a7:(o j).Ok es D){S:Nat->Prop}{C:Nat->Option Thk.Ch}(hB:jT S C)(a3:XO r j S C):Brings ⟨λd=>1<=nth d/\S d,C⟩ cur.pG (o j).pG:=by
 rcases a3 with⟨rfl,rfl,_⟩|⟨⟨ab,rfl,p1,p2⟩,_⟩
 .have:(⟨λd=>1<=nth d/\fst r.K d,r.C⟩:qW Thk.Ch)=cur.pG:=by unfold Hs.pG Es;rw[h.cK,h.cC]
  rw[this];exact Brings.whole _ _
 .obtain⟨M,d1,d2,d3⟩:=h.dr;obtain⟨t,t1,t2,t3⟩:=h.ack j;have Y:=h.ok cur h.now;have a2:=Hs.sle (h.ok t t1) a7 ac t3;have L:M.pG.le (o j).pG:=(Hs.sle (h.ok M d1) (h.ok t t1) ac (h.ord M t d1 t1 V)).trans a2;have F:=λb a=>Hs.sle (h.ok b a) Y ac (h.top b a);have key:∀p∈r.ps,∀f b,Bh P i o p f b->p.st∈dJ j (r.A j) r.ps\/∀d,1<=nth d->newH f b d->(o j).pG.S d/\(b.C d=none->(o j).pG.gone d):=λp k f b a=>by
   by_cases K:p.mark<=r.A j
   .refine υ λd e g=>?_;have Q:b.pG.le (o j).pG:=(Hs.sle (h.ok b a.pb) (h.ok t t1) ac (h.ord b t a.pb t1 (by rw[<- a.mark,t2];exact K))).trans a2;exact⟨Q.s d ⟨e,g.1⟩,λm=>Q.g d ⟨⟨e,g.1⟩,m⟩⟩
   .by_cases H:p.fr=j
    .refine υ λd e g=>?_;have:=a.fr (by rw[H];exact hj);rw[H]at this;exact this d e g
    .refine τ ?_;unfold dJ;refine ι.2 ⟨p,ϑf.2 ⟨k, ?_⟩,rfl⟩;simp[H];omega
  have a1:=p1;have Z:∀p∈r.ps,∀f b d,Bh P i o p f b->p.st∈dJ j (r.A j) r.ps->newH f b d->b.C d=none->dA (dJ j (r.A j) r.ps) d:=λp k f b d a K g m=>⟨p.st,K,by rw[a.it];exact gX.2 (by rw[Nq g];exact m),by rw[a.s];exact g⟩;refine⟨λd e=>?_,λd e=>?_,λd c a6=>?_,λd e=>?_,λd e=>?_⟩
  .obtain⟨hd1,w,s,x⟩:=e;obtain⟨p,k,rfl,_⟩:=lq s;obtain⟨f,b,y,a⟩:=d3.mem d1 p k;rw[a.s]at x;exact(F b a.pb).s d ⟨hd1,x.1⟩
  .rcases d3.came d1 d e with B|⟨p,k,f,b,y,a,g⟩
   .exact υ (L.s d B)
   .rcases key p k f b a with l|l
    .exact τ ⟨e.1,p.st,l,by rw[a.s];exact g⟩
    .exact υ (l d e.1 g).1
  .have T:C d=some c:=a6;have hi:aU C d=some (sK c):=by unfold aU;rw[T];(first|done|rfl)
   obtain⟨⟨w,s,hv⟩,IK⟩:=a1 d _ hi;obtain⟨p,k,rfl,_⟩:=lq s;obtain⟨f,b,y,a⟩:=d3.mem d1 p k;rw[a.it]at hv;obtain⟨c',G,u⟩:=oK hv;obtain⟨g,A⟩:=xu G;have a4:=aa1 (hB.all d c T) (((h.ok b a.pb).UW ac hn he a9).all d c' A) u;subst a4;have hd1:=(h.ok b a.pb).alv ac (d:=d) (by rw[A];simp);have a5:=(F b a.pb).s d hd1.2;cases ak3:cur.C d with
   | some c2=>exact τ (by show cur.C d=some c;rw[ak3,(h.ok b a.pb).same Y d c c2 A ak3])
   | none =>
    refine υ ?_;rcases d3.gone d1 d ⟨a5,ak3⟩with h3|⟨q,hq,R,U,aa,W,N,X⟩
    .exact L.g d h3
    .rcases key q hq R U W with E|E
     .exact absurd (Z q hq R U d W E N X) IK
     .exact(E d hd1.2.1 N).2 X
  .obtain⟨⟨hd1,w,s,x⟩,m⟩:=e;have G:C d=none:=m;by_cases v:dA (dJ j (r.A j) r.ps) d
   .obtain⟨s2,a8,a0,hS2⟩:=v;obtain⟨p,k,rfl,_⟩:=lq a8;obtain⟨f,b,y,a⟩:=d3.mem d1 p k;rw[a.s]at hS2;rw[a.it]at a0;have:=gX.1 a0;rw[Nq hS2]at this;exact(F b a.pb).g d ⟨⟨hd1,hS2.1⟩,this⟩
   .have:w.It d≠none:=λu=>v ⟨w,s,u,x⟩;exact absurd (gX.2 G) (p2 d ⟨w,s,this⟩ v)
  .rcases d3.gone d1 d e with B|⟨p,k,f,b,y,a,g,m⟩
   .exact υ (L.g d B)
   .rcases key p k f b a with l|l
    .have v:=Z p k f b d a l g m;refine τ ⟨⟨e.1.1,p.st,l,by rw[a.s];exact g⟩, ?_⟩;show C d=none;cases hcd:C d with
     | none=>rfl
     | some c=>exact absurd v (a1 d (sK c) (by unfold aU;rw[hcd];rfl)).2
    .exact υ ((l d e.1.1 g).2 m)
