import Derived.Test.YtfmmllpjgkgeaabGreatDoorZ36
set_option linter.all false
set_option maxHeartbeats 0
set_option maxRecDepth 100000
namespace Go.Proofs.YtfmmllpjgkgeaabGreatDoor
section
structure qW(Ξ:Type) where
 S:Nat->Prop
 C:Nat->Option Ξ
variable{Ξ:Type}
def qW.gone(a:qW Ξ)(d:Nat):Prop:=a.S d/\a.C d=none
structure qW.le(a b:qW Ξ):Prop where
 s:∀d,a.S d->b.S d
 g:∀d,a.gone d->b.gone d
def qW.le.trans{a b c:qW Ξ}(h:a.le b)(k:b.le c):a.le c:=⟨λd e=>k.s d (h.s d e),λd e=>k.g d (h.g d e)⟩
def qW.le.refl(a:qW Ξ):a.le a:=⟨λ_ h=>h,λ_ h=>h⟩
structure Brings(D i j:qW Ξ):Prop where
 a:∀d,D.S d->i.S d
 b:∀d,i.S d->D.S d\/j.S d
 c:∀d c,D.C d=some c->i.C d=some c\/j.gone d
 d:∀d,D.gone d->i.gone d
 e:∀d,i.gone d->D.gone d\/j.gone d
def Brings.whole(i j:qW Ξ):Brings i i j:=⟨λ_ h=>h,λ_ h=>τ h,λ_ _ h=>τ h,λ_ h=>h,λ_ h=>τ h⟩
def Brings.later{D i j j':qW Ξ}(h:Brings D i j)(b:j.le j'):Brings D i j' :=
 ⟨h.a,λd a=>(h.b d a).imp id (b.s d),λd c e=>(h.c d c e).imp id (b.g d),h.d,λd a=>(h.e d a).imp id (b.g d)⟩
def qW.join(a b:qW Ξ)(r:qW Ξ):Prop:=(∀d,r.S d↔a.S d\/b.S d)/\(∀d,r.gone d↔a.gone d\/b.gone d)/\∀d c,r.C d=some c->a.C d=some c\/b.C d=some c
def Brings.join{D i j r:qW Ξ}(h:Brings D i j)(m:qW.join D j r):qW.join i j r:=by
 obtain⟨k,g,l⟩:=m;refine⟨λd=>?_,λd=>?_,λd f e=>?_⟩
 .rw[k];constructor
  .rintro(a|a)
   .exact τ (h.a d a)
   .exact υ a
  .rintro(a|a)
   .exact h.b d a
   .exact υ a
 .rw[g];constructor
  .rintro(a|a)
   .exact τ (h.d d a)
   .exact υ a
  .rintro(a|a)
   .exact h.e d a
   .exact υ a
 .rcases l d f e with b|b
  .rcases h.c d f b with c|c
   .exact τ c
   .have:=(g d).2 (υ c);rw[this.2]at e;cases e
  .exact υ b
end
section
open Go.RowKit
variable{e:Ev}{known:List Bool}{es:List Ev}{k:Nat}
def nM(e:Ev):Thk.Ch:=⟨ay e.p,e.a,ay e.v,e.n⟩
def UO{d:Nat}(a:d<es.length)(b:k<es.length):vM (es++[e]) known k d=vM es known k d:=by unfold vM;rw[ε a,ε b]
def GL(a:k<es.length):∀d,d<=es.length->iy (es++[e]) known k d=iy es known k d
 | 0,_=>rfl
 | d+1,h=>by unfold iy;rw[GL a d V,UO V a]
def GN(c:known.length<=es.length)(a:k<es.length):alive (es++[e]) known k=alive es known k:=by
 unfold alive;rw[ε a,ρ];have b:iy (es++[e]) known k (es.length+1)=iy es known k es.length:=by
  rw[iy,GL a _ (χ _)];have:vM (es++[e]) known k es.length=false:=by unfold vM;rw[iT c];split<;>simp
  rw[this];simp
 rw[show [e].length=1 from rfl,b]
def UQ(e:Thk.Bs)(a:UInt8)(d:Thk.Bs)(f:Thk.Bs)(b:UInt8)(ev:Thk.Bs):pI e a (ay (aG a ⟨d.toArray⟩)) f b (ay (aG b ⟨ev.toArray⟩))=pI e a d f b ev:=by
 have g:∀(c:UInt8)(v:Thk.Bs),c.toNat=43\/c.toNat=45->ay (aG c ⟨v.toArray⟩)=v:=λc v k=>by unfold aG;rw[ώ V];(first|done|rfl)
 unfold pI;split
 .rfl
 .split
  .rfl
  .split
   .rename_i h43;have h:ay (aG b ⟨ev.toArray⟩)=ev:=g b ev (τ V);rw[h];by_cases i:a.toNat=43\/a.toNat=45
    .rw[g a d i]
    .have j:((a.toNat:Int)==43||(a.toNat:Int)==45)=false:=Θ
     rw[j];(first|done|rfl)
   .rfl
def GR(es:List Ev)(known:List Bool)(k:Nat):∀n,iy es known k n=true↔∃d,k<d/\d<n/\vM es known k d=true
 | 0=>by simp[iy]
 | n+1=>by
  rw[iy,ϑw,GR es known k n,γ,ϑs];constructor
  .rintro(⟨d,a,c,b⟩|⟨a,c⟩)
   .exact⟨d,a,V,b⟩
   .exact⟨n,a,V,c⟩
  .rintro⟨d,a,c,b⟩;by_cases e:d=n
   .subst e;exact υ ⟨a,b⟩
   .exact τ ⟨d,a,V,b⟩
def Bg(es:List Ev)(k d:Nat):Bool :=
 match es[d]?,es[k]? with
 | some x,some y=>x.zW.getD k false&&pI (ay x.p) x.a (ay x.v) (ay y.p) y.a (ay y.v)
 | _,_=>false
def Ej(es:List Ev)(known:List Bool)(k d:Nat):vM es known k d=(known.getD d false&&Bg es k d):=by
 unfold vM Bg;cases es[d]? with
 | none=>simp
 | some x =>
  cases es[k]? with
  | none=>simp
  | some y=>simp only[Bool.and_assoc]
def bZ(es:List Ev)(known:List Bool)(k:Nat):alive es known k=true↔(∃y,es[k]?=some y/\jq y.a=true)/\known.getD k false=true/\∀d,k<d->d<es.length->known.getD d false=true->Bg es k d=false:=by
 unfold alive;cases he:es[k]? with
 | none=>simp
 | some y =>
  simp only[γ,Bool.not_eq_true',ϑb,exists_eq_left'];rw[and_assoc,<- Bool.not_eq_true (iy es known k es.length),GR];refine and_congr_right λ_=>and_congr_right λ_=>⟨λh d b c a=>?_,λh=>?_⟩
  .cases hc:Bg es k d with
   | false=>rfl
   | true=>exact absurd ⟨d,b,c,by rw[Ej,a,hc];rfl⟩ h
  .rintro⟨d,b,c,a⟩;rw[Ej,γ]at a;rw[h d b c a.1]at a;cases a.2
def X4{d:Nat}(h:Bg es k d=true):∃x,es[d]?=some x/\x.zW.getD k false=true:=by
 unfold Bg at h;split at h
 .rename_i x y hx hy;rw[γ]at h;exact⟨x,hx,h.1⟩
 .cases h
structure uX(es:List Ev)(D:List Nat)(n:Nat):Prop where
 len:D.length=es.length
 nd:D.Nodup
 ok:∀d∈D,1<=nth d/\(who d<6->who d<n/\nth d<=500)
structure Kn(es:List Ev)(D:List Nat)(known:List Bool)(K:Nat->Nat)(C:Nat->Option Thk.Ch):Prop where
 len:known.length<=es.length
 vec:∀i d,D[i]?=some d->(known.getD i false=true↔nth d<=K (who d))
 all:∀x m,1<=m->m<=K x->m<512/\dX x m∈D
 cl:∀d e i,es[d]?=some e->known.getD d false=true->e.zW.getD i false=true->known.getD i false=true
 c1:∀i d,D[i]?=some d->C d=if alive es known i=true then(es[i]?).map nM else none
 c2:∀d,d ∉ D->C d=none
 z:∀x,6<=x->K x=0
section
variable{es:List Ev}{D:List Nat}{n:Nat}{known:List Bool}{K:Nat->Nat}{C:Nat->Option Thk.Ch}
def Kn.nil:Kn [] [] [] (λ_=>0) (λ_=>none):=⟨χ _,λi d h=>by simp at h,λx m a b=>V,λd e i h=>by simp at h,λi d h=>by simp at h,λd _=>rfl,λ_ _=>rfl⟩
def Kn.au9(h:Kn es D known K C){d:Nat}(b:d ∉ D)(a:1<=nth d):¬nth d<=K (who d):=λc=>by have:=(h.all (who d) (nth d) a c).2;rw[xZ]at this;exact b this
def Kn.sup(h:Kn es D known K C){d:Nat}(b:C d≠none):∃i e,D[i]?=some d/\alive es known i=true/\es[i]?=some e/\C d=some (nM e):=by
 by_cases c:d∈D
 .obtain⟨i,j,rfl⟩:=ϑd c;have f:=σ j;have:=h.c1 i _ f;by_cases a:alive es known i=true
  .rw[ώ a]at this;obtain⟨⟨y,g,_⟩,_⟩:=(bZ es known i).1 a;rw[g]at this;exact⟨i,y,f,a,g,this⟩
  .rw[ύ a]at this;exact absurd this b
 .exact absurd (h.c2 d c) b
def Kn.lost(h:Kn es D known K C){k p:Nat}(m:k<D.length)(c:known.getD k false=false)(y:p ∉ D)(A:6<=who p)(F:1<=nth p):Kn es (D.set k p) known K C:=by
 have n:=σ m;have x:¬nth D[k]<=K (who D[k]):=λb=>by rw[(h.vec k _ n).2 b]at c;cases c
 have l:¬alive es known k=true:=λb=>by rw[((bZ _ _ _).1 b).2.1]at c;cases c
 have r:∀i d,(D.set k p)[i]?=some d->(i=k/\d=p)\/(i≠k/\D[i]?=some d):=λi d a=>by
  by_cases e:i=k
  .subst e;rw[List.getElem?_set_self m]at a;exact τ ⟨rfl,(Option.some.inj a).symm⟩
  .rw[List.getElem?_set_ne (Ne.symm e)]at a;exact υ ⟨e,a⟩
 have q:∀d,d∈D->d≠D[k]->d∈D.set k p:=λd a w=>by obtain⟨j,u,rfl⟩:=ϑd a;have v:k≠j:=λe=>w (by subst e;rfl);exact ϑC (i:=j) (by rw[List.getElem?_set_ne v];exact σ u)
 refine⟨h.len,λi d a=>?_,λE B t b=>?_,h.cl,λi d a=>?_,λd a=>?_,h.z⟩
 .rcases r i d a with⟨rfl,rfl⟩|⟨_,a⟩
  .rw[c,h.z _ A];exact⟨λg=>(by cases g),λg=>V⟩
  .exact h.vec i d a
 .obtain⟨f,s⟩:=h.all E B t b;refine⟨f,q _ s (λe=>x ?_)⟩;rw[<- e,dI f,dG f];exact b
 .rcases r i d a with⟨rfl,rfl⟩|⟨_,a⟩
  .rw[ύ l];exact h.c2 _ y
  .exact h.c1 i d a
 .by_cases o:d∈D
  .by_cases e:d=D[k]
   .rw[e,h.c1 k _ n,ύ l]
   .exact absurd (q d o e) a
  .exact h.c2 d o
def uX.lost(a:uX es D n){k p:Nat}(d:p ∉ D)(r:6<=who p)(j:1<=nth p):uX es (D.set k p) n:=by
 refine⟨by rw[List.length_set];exact a.len, ?_,λf h=>?_⟩
 .unfold List.Nodup;rw[List.pairwise_iff_getElem];intro m o b c i e;rw[List.length_set]at b c;rw[ϑi,ϑi]at e;have l:=List.pairwise_iff_getElem.1 a.nd m o b c i;split at e
  .split at e
   .omega
   .exact d (e▸κ c)
  .split at e
   .exact d (e▸κ b)
   .exact l e
 .rcases ϑJ h with g|rfl
  .exact a.ok f g
  .exact⟨j,λq=>V⟩
def kH(D:List Nat):Nat:=(D.filter λd=>decide (who d<6)).length
def Kn.w6(h:Kn es D known K C){d:Nat}(b:1<=nth d)(a:nth d<=K (who d)):who d<6:=ϑc λc=>by rw[h.z _ V]at a;omega
def Kn.other(h:Kn es D known K C)(g:uX es D n)(e:Ev)(d:Nat)(m:d ∉ D)(s:1<=nth d):Kn (es++[e]) (D++[d]) known K C:=by
 have q:=h.len;have p:=iT q;refine⟨Θ,λi x a=>?_,λx r l c=>⟨(h.all x r l c).1,θ.2 (τ (h.all x r l c).2)⟩,λx y i a k v=>?_,λi x a=>?_,λx a=>h.c2 x (λu=>a (θ.2 (τ u))),h.z⟩
 .by_cases b:i<D.length
  .rw[ε b]at a;exact h.vec i x a
  .by_cases f:i=D.length
   .subst f;simp at a;subst a;rw[g.len,p];exact⟨λt=>(by cases t),λc=>absurd c (h.au9 m s)⟩
   .rw[ϑq Θ]at a;cases a
 .by_cases b:x<es.length
  .rw[ε b]at a;exact h.cl x y i a k v
  .rw[iT V]at k;cases k
 .by_cases b:i<D.length
  .rw[ε b]at a;have o:i<es.length:=by rw[<- g.len];exact b
   rw[GN q o,ε o];exact h.c1 i x a
  .by_cases f:i=D.length
   .subst f;simp at a;subst a;have j:¬alive (es++[e]) known D.length=true:=λj=>by have:=((bZ _ _ _).1 j).2.1;rw[g.len,p]at this;cases this
    rw[ύ j];exact h.c2 _ m
   .rw[ϑq Θ]at a;cases a
def Kn.mine(h:Kn es D known K C)(v:uX es D n)(e:Ev)(c:Thk.Ch)(T:nM e=c)(hs:e.zW=known)(a:Nat)(a4:a<6)(hK:K a+1<=500)(G:dX a (K a+1) ∉ D):Kn (es++[e]) (D++[dX a (K a+1)]) (dw known es.length) (inc K a) (iD C c (dX a (K a+1))):=by
 have L:=h.len;have k:=ru known es.length L;have a5:=iT L;obtain⟨d,B⟩:∃d,d=dX a (K a+1):=⟨_,rfl⟩;have hw:who d=a:=by rw[B];exact dI V
 have Z:nth d=K a+1:=by rw[B];exact dG V
 rw[<- B]at G⊢;have E:(es++[e])[es.length]?=some e:=Ω
 have Y:∀i x,(D++[d])[i]?=some x->(i<D.length/\D[i]?=some x)\/(i=D.length/\x=d):=λi x b=>by
  by_cases o:i<D.length
  .rw[ε o]at b;exact τ ⟨o,b⟩
  .by_cases u:i=D.length
   .subst u;simp at b;exact υ ⟨rfl,b.symm⟩
   .rw[ϑq Θ]at b;cases b
 refine⟨by rw[jD _ _ L];simp,λi x b=>?_,λx N m g=>?_,λx y i b t M=>?_,λi x b=>?_,λx b=>?_,λx b=>by rw[gQ V];exact h.z x b⟩
 .rcases Y i x b with⟨o,b⟩|⟨rfl,rfl⟩
  .have:¬i=es.length:=by rw[<- v.len];omega
   rw[k,ϑw,h.vec i x b];simp only[this,decide_false,ϑB,ϑO];by_cases p:who x=a
   .rw[p,dU];refine⟨λh=>V,λS=>?_⟩;by_cases F:nth x=K a+1
    .exact absurd (ϑC b) (by rw[mJ (x:=x) (y:=d) (by rw[p,hw]) (by rw[F,Z])];exact G)
    .omega
   .rw[gQ p]
  .rw[k,hw,dU,Z,v.len];simp
 .by_cases p:x=a
  .subst p;rw[dU]at g;by_cases F:N=K x+1
   .rw[F,<- B];exact⟨V,Ω⟩
   .obtain⟨P,Q⟩:=h.all x N m V;exact⟨P,θ.2 (τ Q)⟩
  .rw[gQ p]at g;obtain⟨P,Q⟩:=h.all x N m g;exact⟨P,θ.2 (τ Q)⟩
 .rw[k,ϑw]at t⊢;by_cases o:x<es.length
  .rw[ε o]at b;rcases t with t|t
   .exact τ (h.cl x y i b t M)
   .rw[ϑs]at t;omega
  .by_cases u:x=es.length
   .subst u;rw[E]at b;cases b
    rw[hs]at M;exact τ M
   .rw[ϑq Θ]at b;cases b
 .rcases Y i x b with⟨o,b⟩|⟨rfl,rfl⟩
  .have a3:¬x=d:=λu=>G (u▸ϑC b);have r:i<es.length:=by rw[<- v.len];exact o
   have X:=σ r;unfold iD;rw[ύ a3,h.c1 i x b,ε r,X];have a2:¬i=es.length:=V
   have W:Bg (es++[e]) i es.length=(known.getD i false&&pI (ay e.p) e.a (ay e.v) (ay es[i].p) es[i].a (ay es[i].v)):=by unfold Bg;rw[E,ε r,X];simp only[];rw[hs]
   have U:∀j,j<es.length->Bg (es++[e]) i j=Bg es i j:=λj s=>by unfold Bg;rw[ε s,ε r]
   have a1:yN c.path c.act (ay (aG c.act ⟨c.val.toArray⟩)) (nM es[i])=pI (ay e.p) e.a (ay e.v) (ay es[i].p) es[i].a (ay es[i].v):=by subst T;exact UQ _ _ _ _ _ _
   have q:alive (es++[e]) (dw known es.length) i=true↔alive es known i=true/\pI (ay e.p) e.a (ay e.v) (ay es[i].p) es[i].a (ay es[i].v)=false:=by
    rw[bZ,bZ,ε r,k];simp only[a2,decide_false,Bool.or_false,ρ,List.length_singleton];constructor
    .rintro⟨l,m,g⟩;refine⟨⟨l,m,λj s H w=>?_⟩, ?_⟩
     .rw[<- U j H];exact g j s V (by rw[k,w];rfl)
     .have:=g es.length r V (by rw[k];simp);rw[W,m]at this;simpa using this
    .rintro⟨⟨l,m,g⟩,S⟩;refine⟨l,m,λj s H w=>?_⟩;by_cases R:j=es.length
     .subst R;rw[W,S];simp
     .rw[U j V];rw[k]at w;simp only[R,decide_false,Bool.or_false]at w;exact g j s V w
   by_cases A:alive es known i=true
   .rw[ώ A];simp only[Option.map_some,a1];cases hcb:pI (ay e.p) e.a (ay e.v) (ay es[i].p) es[i].a (ay es[i].v) with
    | true=>rw[ώ rfl,ύ (λf=>by rw[(q.1 f).2]at hcb;cases hcb)]
    | false=>rw[ύ Ω,ώ (q.2 ⟨A,hcb⟩)]
   .rw[ύ A,ύ (λf=>A (q.1 f).1)]
  .unfold iD;have q:alive (es++[e]) (dw known es.length) D.length=true↔jq e.a=true:=by
    rw[bZ,v.len,E,k];simp only[ρ,List.length_singleton];constructor
    .rintro⟨⟨y,hy,l⟩,_⟩;cases hy;exact l
    .intro l;exact⟨⟨e,rfl,l⟩,Ω,λj s H _=>V⟩
   have a0:(es++[e])[D.length]?=some e:=by rw[v.len];exact E
   rw[ώ rfl,a0];subst T;by_cases f:jq e.a=true
   .rw[ώ (q.2 f)];exact ώ f
   .rw[ύ (λh6=>f (q.1 h6))];exact ύ f
 .unfold iD;rw[θ,ϑe]at b;rw[ύ (λf=>b (υ f)),h.c2 x (λf=>b (τ f))]
def Kn.join{k2:List Bool}{w:Nat->Nat}{M:Nat->Option Thk.Ch}(o:Kn es D known K C)(p:Kn es D k2 w M):Kn es D (bH known k2) (jJ K w) (jC K C w M):=by
 have Q:∀(r u:List Bool)i,(∀d e i,es[d]?=some e->u.getD d false=true->e.zW.getD i false=true->u.getD i false=true)->r.getD i false=true->u.getD i false=false->∀G:List Bool,(∀j,G.getD j false=(r.getD j false||u.getD j false))->(alive es G i=true↔alive es r i=true):=by
  intro r u i U T a G F;rw[bZ,bZ,F,T,a];simp only[Bool.or_false,ϑM];refine and_congr_right λ_=>⟨λg j m n b=>g j m n (by rw[F,b];rfl),λg j m n b=>?_⟩;rw[F,ϑw]at b;rcases b with b|b
  .exact g j m n b
  .cases hc:Bg es i j with
   | false=>rfl
   | true =>obtain⟨x,y,W⟩:=X4 hc;rw[U j x i y b W]at a;cases a
 refine⟨by rw[kT];have:=o.len;have:=p.len;omega,λi d l=>?_,λx H a g=>?_,λd e i N s P=>?_,λi d l=>?_,λd l=>?_,λx y=>by unfold jJ;rw[o.z x y,p.z x y];rfl⟩
 .rw[fG,ϑw,o.vec i d l,p.vec i d l];unfold jJ;omega
 .unfold jJ at g;by_cases E:H<=K x
  .exact o.all x H a E
  .exact p.all x H a V
 .rw[fG,ϑw]at s⊢;rcases s with s|s
  .exact τ (o.cl d e i N s P)
  .exact υ (p.cl d e i N s P)
 .have R:=o.vec i d l;have L:=p.vec i d l;have f:=o.c1 i d l;have c:=p.c1 i d l;have A:∀(r:List Bool),r.getD i false=false->¬alive es r i=true:=λr a g=>by rw[((bZ es r i).1 g).2.1]at a;cases a
  unfold jC;cases k1:known.getD i false with
  | true =>
   have B:=R.1 k1;cases X5:k2.getD i false with
   | true =>
    have v:=L.1 X5;have q:alive es (bH known k2) i=true↔alive es known i=true/\alive es k2 i=true:=by
     rw[bZ,bZ,bZ,fG,k1,X5];simp only[Bool.or_self,ϑM];constructor
     .rintro⟨a,g⟩;exact⟨⟨a,λj m n b=>g j m n (by rw[fG,b];rfl)⟩,a,λj m n b=>g j m n (by rw[fG,b];simp)⟩
     .rintro⟨⟨a,g⟩,_,E⟩;refine⟨a,λj m n b=>?_⟩;rw[fG,ϑw]at b;rcases b with b|b
      .exact g j m n b
      .exact E j m n b
    by_cases h:alive es known i=true
    .by_cases k:alive es k2 i=true
     .rw[ώ (q.2 ⟨h,k⟩)];rw[ώ h]at f;rw[ώ k]at c;obtain⟨⟨S,t,_⟩,_⟩:=(bZ es known i).1 h;rw[t]at f c⊢;rw[f,c,ύ Ω];rfl
     .rw[ύ (λa=>k (q.1 a).2)];rw[ύ k]at c;rw[ώ (υ ⟨c,v⟩)]
    .rw[ύ (λa=>h (q.1 a).1)];rw[ύ h]at f;rw[ώ (τ ⟨f,B⟩)]
   | false =>
    have v:¬nth d<=w (who d):=λa=>by rw[L.2 a]at X5;cases X5
    have q:=Q known k2 i p.cl k1 X5 (bH known k2) (λj=>fG _ _ j);rw[ύ (A k2 X5)]at c;rw[c];by_cases h:alive es known i=true
    .rw[ώ (q.2 h)];rw[ώ h]at f;obtain⟨⟨S,t,_⟩,_⟩:=(bZ es known i).1 h;rw[t]at f⊢;rw[f,ύ (by simp[v])];rfl
    .rw[ύ (λa=>h (q.1 a))];rw[ύ h]at f;rw[ώ (τ ⟨f,B⟩)]
  | false =>
   have B:¬nth d<=K (who d):=λa=>by rw[R.2 a]at k1;cases k1
   rw[ύ (A known k1)]at f;rw[f];cases X5:k2.getD i false with
   | true =>
    have v:=L.1 X5;have q:=Q k2 known i o.cl X5 k1 (bH known k2) (λj=>by rw[fG,Bool.or_comm]);by_cases k:alive es k2 i=true
    .rw[ώ (q.2 k)];rw[ώ k]at c;obtain⟨⟨S,t,_⟩,_⟩:=(bZ es k2 i).1 k;rw[t]at c⊢;rw[c,ύ (by simp[B])];rfl
    .rw[ύ (λa=>k (q.1 a))];rw[ύ k]at c;rw[ώ (υ ⟨c,v⟩)]
   | false =>rw[ύ (A k2 X5)]at c;rw[c,ύ (A (bH known k2) (by rw[fG,k1,X5];rfl))];split<;>rfl
 .unfold jC;rw[o.c2 d l,p.c2 d l];split<;>rfl
def Kn.same{k2:List Bool}{j:Nat->Nat}{f:Nat->Option Thk.Ch}(h:Kn es D known K C)(k:Kn es D k2 j f):∀d c c',C d=some c->f d=some c'->c=c':=by
 intro d c c' e l;have n:d∈D:=ϑc λm=>by rw[h.c2 d m]at e;cases e
 obtain⟨i,o,rfl⟩:=ϑd n;have g:=σ o;have b:=h.c1 i _ g;have a:=k.c1 i _ g;rw[e]at b;rw[l]at a;split at b
 .split at a
  .rw[<- b]at a;cases a;rfl
  .cases a
 .cases b
end
def Rt:∀(a b:Thk.Bs),Thk.qY a b=true↔a<b
 | [],[]=>by simp[Thk.qY]
 | [],_::_=>by simp[Thk.qY]
 | _::_,[]=>by simp[Thk.qY]
 | a::l,b::m=>by rw[Thk.qY,List.cons_lt_cons_iff,<- Rt l m];simp only[ϑw,γ,ϑs,ϑt,UInt8.lt_iff_toNat_lt]
def mV:∀a:Thk.Bs,Thk.qY a a=false
 | []=>rfl
 | a::l=>by rw[Thk.qY,mV l];simp
def jy:∀(a b c:Thk.Bs),Thk.qY a b=true->Thk.qY b c=true->Thk.qY a c=true
 | [],[],_,h,_=>by simp[Thk.qY]at h
 | [],_::_,[],_,h=>by simp[Thk.qY]at h
 | [],_::_,_::_,_,_=>rfl
 | _::_,[],_,h,_=>by simp[Thk.qY]at h
 | _::_,_::_,[],_,h=>by simp[Thk.qY]at h
 | a::l,b::m,c::n,e,d=>by
  simp only[Thk.qY,ϑw,γ,ϑs,ϑt]at e d⊢;rcases e with e|⟨rfl,e⟩
  .rcases d with d|⟨rfl,d⟩
   .exact τ V
   .exact τ e
  .rcases d with d|⟨rfl,d⟩
   .exact τ d
   .exact υ ⟨rfl,jy l m n e d⟩
def qC:∀(a b:Thk.Bs),Thk.qY a b=true\/a=b\/Thk.qY b a=true
 | [],[]=>υ (τ rfl)
 | [],_::_=>τ rfl
 | _::_,[]=>υ (υ rfl)
 | a::l,b::m=>by
  simp only[Thk.qY,ϑw,γ,ϑs,ϑt];by_cases h:a.toNat<b.toNat
  .exact τ (τ h)
  .by_cases d:b.toNat<a.toNat
   .exact υ (υ (τ d))
   .have e:a=b:=UInt8.toNat_inj.1 V;subst e;rcases qC l m with c|c|c
    .exact τ (υ ⟨rfl,c⟩)
    .exact υ (τ (by rw[c]))
    .exact υ (υ (υ ⟨rfl,c⟩))
def zQ(a b:Thk.Bs):decide (a<=b) = !Thk.qY b a:=by
 have h:=Rt b a;by_cases c:b<a
 .have:¬a<=b:=λd=>d c;rw[h.2 c];simp[this]
 .have d:a<=b:=c;have e:Thk.qY b a=false:=by rw[<- Bool.not_eq_true];exact λf=>c (h.1 f)
  rw[e];simp[d]
def qP(l:List Thk.Bs):Prop:=l.Pairwise λa b=>Thk.qY a b=true
def qP.nodup{l:List Thk.Bs}(h:qP l):l.Nodup:=List.Pairwise.imp (λ{a b}h e=>by rw[e,mV]at h;cases h) h
def Nh{l m:List Thk.Bs}(a:qP l)(b:qP m)(h:∀x,x∈l↔x∈m):l=m :=
 List.Perm.eq_of_pairwise (λe f _ _ c d=>by have:=jy _ _ _ c d;rw[mV]at this;cases this) a b ((List.perm_ext_iff_of_nodup a.nodup b.nodup).2 h)
def Jv{zs:List Thk.Bs}(r:zs.Pairwise λo p=>Thk.qY p o=false):qP (Lib.compact zs)/\∀x,x∈Lib.compact zs↔x∈zs:=by
 have b:∀j,j<zs.length->zs.toArray[j]! = zs.getD j []:=λj a=>by simp[a]
 have m:∀i j,i<j->j<zs.length->Thk.qY (zs.getD j []) (zs.getD i [])=false:=λi j l a=>by have:=(List.pairwise_iff_getElem.1 r) i j V a l;rw[ξ,ξ,σ a,σ (V:i<zs.length)];exact this
 constructor
 .unfold qP Lib.compact Lib.compactUpTo;rw[List.pairwise_map];have q:((List.range zs.length).filter (Lib.keeps zs.toArray)).Pairwise (· < ·):=List.Pairwise.filter _ List.pairwise_lt_range;refine List.Pairwise.imp_of_mem ?_ q;intro i j d a l;rw[ϑf,ϑp]at d a;have c:=a.2;unfold Lib.keeps at c;simp only[ϑs]at c;have n:zs.toArray[j]!≠zs.toArray[j-1]!:=by rcases c with h|h;omega;exact h
  rw[b j a.1,b (j-1) V]at n;rw[b i d.1,b j a.1];have f:Thk.qY (zs.getD (j-1) []) (zs.getD j [])=true:=by
   rcases qC (zs.getD (j-1) []) (zs.getD j [])with h|h|h
   .exact h
   .exact absurd h.symm n
   .rw[m (j-1) j V a.1]at h;cases h
  by_cases e:i=j-1
  .rw[e];exact f
  .rcases qC (zs.getD i []) (zs.getD (j-1) [])with h|h|h
   .exact jy _ _ _ h f
   .rw[h];exact f
   .rw[m i (j-1) V V]at h;cases h
 .intro x;unfold Lib.compact Lib.compactUpTo;constructor
  .intro g;obtain⟨i,d,rfl⟩:=ι.1 g;rw[ϑf,ϑp]at d;rw[b i d.1,ξ,σ d.1];exact κ _
  .intro g;obtain⟨j,a,rfl⟩:=ϑd g;have key:∀j(a:j<zs.length),zs[j]∈((List.range zs.length).filter (Lib.keeps zs.toArray)).map (zs.toArray[·]!):=by
    intro j;induction j with
    | zero=>intro a;exact ι.2 ⟨0,ϑf.2 ⟨ϑp.2 a,by simp[Lib.keeps]⟩,by rw[b 0 a,ξ,σ a];rfl⟩
    | succ j ih =>
     intro a;by_cases c:Lib.keeps zs.toArray (j+1)=true
     .exact ι.2 ⟨j+1,ϑf.2 ⟨ϑp.2 a,c⟩,by rw[b _ a,ξ,σ a];rfl⟩
     .have k:zs.toArray[j+1]! = zs.toArray[j]!:=by unfold Lib.keeps at c;simp only[ϑs,not_or,ne_eq,Decidable.not_not]at c;exact c.2
      rw[b _ a,b j V,ξ,ξ,σ a,σ (V:j<zs.length)]at k;have:=ih V;rw[show zs[j+1]=zs[j]from k];exact this
   exact key j a
def Ru(l:List Thk.Bs)(s x:Thk.Bs):x∈Thk.ins l s↔x=s\/x∈l:=by
 induction l with
 | nil=>simp[Thk.ins]
 | cons y r ih =>
  unfold Thk.ins;split
  .rename_i h;subst h;simp
  .split
   .simp
   .simp only[ϑL,ih];constructor
    .rintro(h|h|h)
     .exact υ (τ h)
     .exact τ h
     .exact υ (υ h)
    .rintro(h|h|h)
     .exact υ (τ h)
     .exact τ h
     .exact υ (υ h)
def X6{l:List Thk.Bs}(h:qP l)(s:Thk.Bs):qP (Thk.ins l s):=by
 induction l with
 | nil=>exact List.pairwise_singleton _ _
 | cons y r ih =>
  have d:=List.pairwise_cons.1 h;unfold Thk.ins;split
  .exact h
  .split
   .rename_i h2 h3;exact List.pairwise_cons.2 ⟨λc a=>by
     rcases ϑL.1 a with e|a
     .rw[e];exact h3
     .exact jy _ _ _ h3 (d.1 c a),h⟩
   .rename_i h2 h3;refine List.pairwise_cons.2 ⟨λc a=>?_,ih d.2⟩;rcases(Ru r s c).1 a with e|a
    .rw[e];rcases qC y s with b|b|b
     .exact b
     .exact absurd b.symm h2
     .exact absurd b h3
    .exact d.1 c a
def Em:∀(a b:Thk.Bs),Op.bytesLess a b=Thk.qY a b
 | [],[]=>rfl
 | [],_::_=>rfl
 | _::_,[]=>rfl
 | a::l,b::m=>by rw[Op.bytesLess,Thk.qY,Em l m];simp[UInt8.lt_iff_toNat_lt]
def oM(s:Thk.Bs):∀(l o:List Thk.Bs),(∀x∈l,x≠s)->l.foldl (bJ s) (o,true)=(o++l,true)
 | [],o,_=>Ω
 | x::r,o,h=>by
  have a:x≠s:=h x Ω;rw[List.foldl_cons];have e:bJ s (o,true) x=(o++[x],true):=by unfold bJ;simp[a]
  rw[e,oM s r _ (λy b=>h y (by simp[b]))];simp
def GU(s:Thk.Bs):∀(l o:List Thk.Bs),qP l->(if(l.foldl (bJ s) (o,false)).2 then(l.foldl (bJ s) (o,false)).1 else(l.foldl (bJ s) (o,false)).1++[s])=o++Thk.ins l s
 | [],o,_=>by simp[Thk.ins]
 | x::r,o,h=>by
  have b:=List.pairwise_cons.1 h;rw[List.foldl_cons];unfold Thk.ins;by_cases e:s=x
  .subst e;have a:bJ s (o,false) s=(o++[s],true):=by unfold bJ;simp
   rw[a,oM s r _ (λy d c=>by have:=b.1 y d;rw[c,mV]at this;cases this)];simp
  .rw[ύ e];cases hlt:Thk.qY s x with
   | true =>
    have a:bJ s (o,false) x=(o++[s]++[x],true):=by unfold bJ;rw[Em,hlt];simp[Ne.symm e]
    rw[a,oM s r _ (λy d c=>by have:=jy _ _ _ hlt (b.1 y d);rw[c,mV]at this;cases this)];simp
   | false =>
    have f:(s==x)=false:=by simpa using e
    have a:bJ s (o,false) x=(o++[x],false):=by unfold bJ;rw[Em,hlt,f];simp[Ne.symm e]
    rw[a,GU s r _ b.2];simp
def X7{l:List Thk.Bs}(h:qP l)(s:Thk.Bs):lZ l s=Thk.ins l s:=by have:=GU s l [] h;unfold lZ;rw[this];simp
def GV:∀(L l:List Thk.Bs),qP l->qP (L.foldl lZ l)/\∀x,x∈L.foldl lZ l↔x∈l\/x∈L
 | [],l,h=>⟨h,λx=>Ω⟩
 | s::L,l,h=>by
  rw[List.foldl_cons,X7 h s];obtain⟨a,b⟩:=GV L (Thk.ins l s) (X6 h s);refine⟨a,λx=>?_⟩;rw[b,Ru];simp only[ϑL];constructor
  .rintro((h|h)|h)
   .exact υ (τ h)
   .exact τ h
   .exact υ (υ h)
  .rintro(h|h|h)
   .exact τ (υ h)
   .exact τ (τ h)
   .exact υ h
def AB(x:Thk.Bs)(r:List Thk.Bs):∀k,k<=r.length->Thk.kD (x::r) (k+1)=x++Lib.joinTail [44] (r.take k)
 | 0,_=>by simp[Thk.kD,Lib.joinTail]
 | k+1,h=>by
  have a:k<r.length:=V
  rw[Thk.kD,ύ V,AB x r k V,Lib.joinTail_take_succ [44] r k r[k] (σ a)];have:(x::r).getD (k+1) []=r[k]:=by simp[a]
  rw[this];simp
def Nk(l:List Thk.Bs):Thk.kD l l.length=Lib.join l [44]:=by
 cases l with
 | nil=>rfl
 | cons x r=>rw[δ,AB x r _ (χ _),ϑm,Lib.join_cons]
def Rw(L L':List Thk.Bs)(j:∀x,x∈L↔x∈L'):Thk.kD (L.foldl lZ []) (L.foldl lZ []).length=nJ L':=by
 rw[Nk];unfold nJ;obtain⟨k,l⟩:=GV L [] List.Pairwise.nil;have m:(L'.mergeSort λx y=>decide (x<=y)).Pairwise λc b=>Thk.qY b c=false:=by
  have:=List.pairwise_mergeSort (le:=λx y:Thk.Bs=>decide (x<=y)) (λc b i=>?_) (λc b=>?_) L'
  .refine List.Pairwise.imp ?_ this;intro c b h;rw[zQ]at h;simpa using h
  .rw[zQ,zQ,zQ];intro e f;simp only[Bool.not_eq_true']at e f⊢;rcases qC c b with a|a|a
   .rcases qC b i with d|d|d
    .have:=jy _ _ _ a d;rw[<- Bool.not_eq_true];intro g;have:=jy _ _ _ this g;rw[mV]at this;cases this
    .subst d;exact e
    .rw[f]at d;cases d
   .subst a;exact f
   .rw[e]at a;cases a
  .rw[zQ,zQ];rcases qC c b with a|a|a
   .have:Thk.qY b c=false:=by rw[<- Bool.not_eq_true];intro g;have:=jy _ _ _ a g;rw[mV]at this;cases this
    simp[this]
   .subst a;simp[mV]
   .have:Thk.qY c b=false:=by rw[<- Bool.not_eq_true];intro g;have:=jy _ _ _ a g;rw[mV]at this;cases this
    simp[this]
 obtain⟨e,f⟩:=Jv m;rw[Nh k e (λx=>by rw[l,f,(List.mergeSort_perm L' _).mem_iff,<- j];simp)]
def key(x:jB):Thk.Bs×Int×Thk.Bs×Int:=(ay x.p,x.a,ay x.v,x.m)
def En(e:Ev):Thk.Bs×Int×Thk.Bs×Int:=(ay e.p,(e.a.toNat:Int),ay (aG e.a e.v),e.n)
def wC(es:List Ev)(al:List Nat):List Ev:=al.filterMap (es[·]?)
def X8{l m:List Int}(h:l.Perm m):l.sum=m.sum:=by
 induction h with
 | nil=>rfl
 | cons x _ c=>simp[c]
 | swap x y l=>simp only[List.sum_cons];omega
 | trans _ _ a b=>exact a.trans b
def lN:∀{l m:List Nat},l.Nodup->(∀x∈l,x∈m)->l.length<=m.length
 | [],_,_,_=>Nat.zero_le _
 | x::l,m,hn,h=>by
  obtain⟨m1,m2,rfl⟩:=List.append_of_mem (h x Ω);rw[List.nodup_cons]at hn;have:=lN (m:=m1++m2) hn.2 (λy b=>by
   have a:=h y (by simp[b]);have c:y≠x:=λe=>hn.1 (e▸b);simp only[θ,ϑL]at a⊢;rcases a with a|a|a
   .exact τ a
   .exact absurd a c
   .exact υ a)
  simp only[ρ,δ]at this⊢;omega
section
variable{es:List Ev}{D:List Nat}{n:Nat}{known:List Bool}{K:Nat->Nat}{C:Nat->Option Thk.Ch}
def xg{D:List Nat}{i:Nat}(a:i<D.length):D[i]?=some (D.getD i 0):=by simp[a]
def av1(f:uX es D n){i j:Nat}(b:i<D.length)(c:j<D.length)(h:D.getD i 0=D.getD j 0):i=j:=by
 have d:D[i]=D[j]:=by rw[ξ,ξ,σ b,σ c]at h;exact h
 have e:=List.pairwise_iff_getElem.1 f.nd;rcases Nat.lt_trichotomy i j with a|a|a
 .exact absurd d (e i j b c a)
 .exact a
 .exact absurd d.symm (e j i c b a)
def xk(d:uX es D n){l:List Nat}(j:l.Nodup)(a:∀i∈l,i<D.length):(l.map λi=>D.getD i 0).Nodup:=by unfold List.Nodup;rw[List.pairwise_map];refine List.Pairwise.imp_of_mem ?_ j;intro b c f h g e;exact g (av1 d (a b f) (a c h) e)
def Kn.perm(k:Kn es D known K C)(p:uX es D n){xs:List jB}(o:ny (aU C) xs):(xs.map key).Perm ((wC es (aH es known es.length)).map En):=by
 obtain⟨⟨B,A⟩,u⟩:=o;have f:∀i,i∈aH es known es.length↔i<D.length/\alive es known i=true:=λi=>by unfold aH;rw[ϑf,ϑp,p.len]
 have s:(xs.map jB.n).Perm ((aH es known es.length).map λi=>D.getD i 0):=by
  refine(List.perm_ext_iff_of_nodup B ?_).2 λh=>?_
  .exact xk p (List.Pairwise.filter _ List.nodup_range) (λi b=>((f i).1 b).1)
  .rw[A,dO,ι];constructor
   .intro g;obtain⟨i,e,a,d,_⟩:=k.sup g;have b:i<D.length:=by
     rcases Nat.lt_or_ge i D.length with l|l
     .exact l
     .rw[ϑq l]at a;cases a
    exact⟨i,(f i).2 ⟨b,d⟩,by rw[xg b]at a;exact Option.some.inj a⟩
   .rintro⟨i,b,rfl⟩;obtain⟨a,d⟩:=(f i).1 b;rw[k.c1 i _ (xg a),ώ d];obtain⟨⟨N,j,_⟩,_⟩:=(bZ es known i).1 d;rw[j];simp
 have w:∀x∈xs,key x=(match C x.n with|some c=>(c.path,(c.act.toNat:Int),ay (aG c.act ⟨c.val.toArray⟩),c.n)|none=>([],0,[],0)):=λx o=>by have t:=u x o;obtain⟨c,g,m⟩:=oK t;rw[g];unfold sK at m;simp only[Value.agg.injEq,Array.mk.injEq,List.cons.injEq,Value.string.injEq,Value.int.injEq,ϑM,ϑN]at m;obtain⟨G,H,L,M⟩:=m;unfold key;rw[G,H,L,M];rfl
 have y:xs.map key=(xs.map jB.n).map λh=>(match C h with|some c=>(c.path,(c.act.toNat:Int),ay (aG c.act ⟨c.val.toArray⟩),c.n)|none=>([],0,[],0)):=by rw[ϑK];exact List.map_congr_left w
 have E:(wC es (aH es known es.length)).map En=((aH es known es.length).map λi=>D.getD i 0).map λh=>(match C h with|some c=>(c.path,(c.act.toNat:Int),ay (aG c.act ⟨c.val.toArray⟩),c.n)|none=>([],0,[],0)):=by
  unfold wC;generalize aH es known es.length=al at f;have q:=λi b=>(f i).1 b;clear f s;induction al with
  | nil=>rfl
  | cons i r ih =>obtain⟨a,d⟩:=q i Ω;obtain⟨⟨N,j,_⟩,_⟩:=(bZ es known i).1 d;have g:=k.c1 i _ (xg a);rw[ώ d,j]at g;rw[List.filterMap_cons,j];simp only[List.map_cons];rw[ih (λF v=>q F (by simp[v])),g];simp only[Option.map_some,nM,En,Dj]
 rw[y,E];exact s.map _
def Kn.nI(h:Kn es D known K C)(e:uX es D n)(x:Nat):K x<=500:=by
 by_cases c:K x=0
 .omega
 .obtain⟨a,d⟩:=h.all x (K x) V (χ _);have b:=(e.ok _ d).2;rw[dI a,dG a]at b;exact(b (ϑc λf=>c (h.z x V))).2
def zS(K:Nat->Nat):∀n,((List.range n).flatMap λx=>(List.range (K x)).map λm=>dX x (m+1)).length=sumTo K n
 | 0=>rfl
 | n+1=>by rw[List.range_succ,List.flatMap_append,ρ,zS K n];simp[sumTo]
def Eo(K:Nat->Nat)(a:∀x,K x<=500):∀n,((List.range n).flatMap λx=>(List.range (K x)).map λm=>dX x (m+1)).Nodup
 | 0=>Ω
 | n+1=>by
  rw[List.range_succ,List.flatMap_append,List.nodup_append];refine⟨Eo K a n, ?_,λd b f c e=>?_⟩
  .simp only[List.flatMap_cons,List.flatMap_nil,List.append_nil];unfold List.Nodup;rw[List.pairwise_map];refine List.Pairwise.imp_of_mem ?_ List.nodup_range;intro d f b c g e;rw[ϑp]at b c;have:=a n;have:=congrArg nth e;rw[dG V,dG V]at this;omega
  .simp only[List.mem_flatMap,ϑp,ι,List.flatMap_cons,List.flatMap_nil,List.append_nil]at b c;obtain⟨x,j,m,h,rfl⟩:=b;obtain⟨m2,i,rfl⟩:=c;have:=a n;have:=a x;have:=congrArg who e;rw[dI V,dI V]at this;omega
def Kn.size(h:Kn es D known K C)(b:uX es D n)(t:n<=6)(g:∀x,K x<=500):cnt known=aF K:=by
 unfold aF;rw[<- kU known es.length h.len,<- zS];have p:(((List.range es.length).filter (λk=>known.getD k false)).map λi=>D.getD i 0).Perm ((List.range 6).flatMap λx=>(List.range (K x)).map λm=>dX x (m+1)):=by
  refine(List.perm_ext_iff_of_nodup (xk b (List.Pairwise.filter _ List.nodup_range) (λi a=>by rw[ϑf,ϑp]at a;rw[b.len];exact a.1)) (Eo K g 6)).2 λq=>?_;simp only[ι,ϑf,ϑp,List.mem_flatMap];constructor
  .rintro⟨i,⟨a,o⟩,rfl⟩;have f:i<D.length:=by rw[b.len];exact a
   have c:=(h.vec i _ (xg f)).1 o;have d:=b.ok _ (ϑC (xg f));have r:=h.w6 d.1 c;exact⟨who (D.getD i 0),V,nth (D.getD i 0)-1,V,by rw[show nth (D.getD i 0)-1+1=nth (D.getD i 0)by omega,xZ]⟩
  .rintro⟨x,u,m,s,rfl⟩;obtain⟨c,d⟩:=h.all x (m+1) V V;obtain⟨i,a,l⟩:=ϑd d;have e:D[i]?=some (dX x (m+1)):=by rw[σ a,l]
   have j:D.getD i 0=dX x (m+1):=by rw[ξ,e];(first|done|rfl)
   refine⟨i,⟨by rw[<- b.len];exact a,(h.vec i _ e).2 ?_⟩,j⟩;rw[dI c,dG c];omega
 have:=p.length_eq;rw[ϑh]at this;exact this
end
def UR(es:List Ev)(a:List Nat)(path:Thk.Bs):zY es a path=BR (Thk.kindOf path) ((wC es a).foldl (qJ (Thk.kindOf path) path) ⟨[],0,false⟩):=by
 unfold zY wC;congr 1;generalize (⟨[],0,false⟩:TSt)=st;induction a generalizing st with
 | nil=>rfl
 | cons i r ih =>rw[List.foldl_cons,ih,List.filterMap_cons];cases es[i]?<;>rfl
def X9(k:UInt8)(path:Thk.Bs)(b:(k.toNat:Int)=109):∀(a:List Ev)(st:TSt),(∀e∈a,ay e.p≠path)->(a.foldl (qJ k path) st).l=((a.filter λe=>(path++[47]).isPrefixOf (ay e.p)).map λe=>jM path (ay e.p)).foldl lZ st.l
 | [],_,_=>rfl
 | e::r,st,h=>by
  have f:=h e Ω;have d:=vW (ay e.p) path;have c:(ay e.p==path)=false:=by simpa using f
  rw[List.foldl_cons,X9 k path b r _ (λy g=>h y (by simp[g])),List.filter_cons];unfold qJ;rw[d,c];cases hp:(path++[47]).isPrefixOf (ay e.p)
  .simp
  .simp[b,jM]
def Ya(k:UInt8)(path:Thk.Bs)(b:(k.toNat:Int)≠109):∀(a:List Ev)(st:TSt),a.foldl (qJ k path) st=⟨((a.filter λe=>ay e.p==path).map λe=>ay e.v).foldl lZ st.l,st.sum+((a.filter λe=>ay e.p==path).map Ev.n).sum,st.some||a.any λe=>ay e.p==path⟩
 | [],st=>Ω
 | e::r,st=>by
  have c:((k.toNat:Int)==109)=false:=by simpa using b
  rw[List.foldl_cons,Ya k path b r,List.filter_cons];unfold qJ;rw[c];cases hp:(ay e.p==path)
  .simp[hp]
  .simp[hp,Int.add_assoc]
structure Np(e:Ev):Prop where
 fit:Thk.fits (Thk.kindOf (ay e.p)) e.a=true
 p:e.p.size<=20
 v:e.v.size<=20
 n1:e.n<=1000000000
 n2:-1000000000<=e.n
def Jw(p:Thk.Bs)(xs:List jB):Aq ⟨p.toArray⟩ xs=xs.filter λx=>ay x.p==p:=by unfold Aq;congr 1;funext x;rw[toList_eq,toList_eq];rfl
def Z9(p:Thk.Bs)(xs:List jB):(Aq ⟨p.toArray⟩ xs).map key=(xs.map key).filter λy=>y.1==p:=by rw[Jw,List.filter_map];rfl
def aa0{xs:List jB}(path:Thk.Bs)(L:∀e∈es,Np e)(D:(xs.map key).Perm ((wC es (aH es known es.length)).map En)):wu path xs=zY es (aH es known es.length) path:=by
 have K:∀e∈wC es (aH es known es.length),jq e.a=true/\Np e:=by intro e b;unfold wC at b;obtain⟨R,C,B⟩:=List.mem_filterMap.1 b;unfold aH at C;have l:=(ϑf.1 C).2;unfold alive at l;rw[B]at l;simp only[γ]at l;exact⟨l.1.1,L e (ϑC B)⟩
 rw[UR];generalize wC es (aH es known es.length)=i at *;have q:∀e∈i,ay e.p=path->(Thk.kindOf path).toNat≠109/\((Thk.kindOf path).toNat≠102->(Thk.kindOf path).toNat≠99->aG e.a e.v=e.v):=by
  intro e b r;obtain⟨d,G⟩:=K e b;have c:=G.fit;rw[r]at c;unfold Thk.fits at c;unfold jq at d;simp only[ϑw,ϑt]at d;unfold aG;refine⟨λv=>?_,λp H=>?_⟩
  .rw[ύ V,ύ V,ύ V,ύ V]at c;simp only[ϑt]at c;omega
  .by_cases w:(Thk.kindOf path).toNat=115
   .rw[ώ w]at c;simp only[ϑw,ϑt]at c;rw[ώ V]
   .rw[ύ w,ύ p]at c;by_cases A:(Thk.kindOf path).toNat=114
    .rw[ώ A]at c;simp only[ϑw,ϑt]at c;rw[ώ V]
    .rw[ύ A,ύ H]at c;simp only[ϑt]at c;omega
 have j:∀y,y∈xs.map key↔y∈i.map En:=λy=>D.mem_iff;unfold wu BR;by_cases s:(Thk.kindOf path).toNat=109
 .rw[ώ s,ύ V,ύ V,X9 _ path V i _ (λe b r=>(q e b r).1 s)];refine(Rw _ _ λQ=>?_).symm;simp only[ι,fC,ϑf];constructor
  .rintro⟨e,⟨b,d⟩,rfl⟩;obtain⟨x,h,f⟩:=ι.1 ((j _).2 (ι.2 ⟨e,b,rfl⟩));have g:ay x.p=ay e.p:=congrArg (·.1) f;exact⟨⟨(jM path (ay x.p)).toArray⟩,⟨x,⟨h,by rw[g];exact d⟩,rfl⟩,by rw[g];rfl⟩
  .rintro⟨_,⟨x,⟨h,d⟩,rfl⟩,rfl⟩;obtain⟨e,b,f⟩:=ι.1 ((j _).1 (ι.2 ⟨x,h,rfl⟩));have g:ay e.p=ay x.p:=congrArg (·.1) f;exact⟨e,⟨b,by rw[g];exact d⟩,by rw[g];rfl⟩
 .have P:((Thk.kindOf path).toNat:Int)≠109:=V
  rw[ύ s,Ya _ path P i];by_cases m:(Thk.kindOf path).toNat=102
  .have t:((Thk.kindOf path).toNat:Int)=102:=V
   rw[ώ m,ώ t];have:(Aq ⟨path.toArray⟩ xs≠[])↔(false||i.any λe=>ay e.p==path)=true:=by
    rw[Bool.false_or,List.any_eq_true];constructor
    .intro v;obtain⟨x,h⟩:=List.exists_mem_of_ne_nil _ v;rw[Jw]at h;obtain⟨M,N⟩:=ϑf.1 h;obtain⟨e,b,f⟩:=ι.1 ((j _).1 (ι.2 ⟨x,M,rfl⟩));have g:ay e.p=ay x.p:=congrArg (·.1) f;exact⟨e,b,by rw[g];exact N⟩
    .rintro⟨e,b,d⟩;obtain⟨x,h,f⟩:=ι.1 ((j _).2 (ι.2 ⟨e,b,rfl⟩));have g:ay x.p=ay e.p:=congrArg (·.1) f;refine List.ne_nil_of_mem (a:=x) ?_;rw[Jw];exact ϑf.2 ⟨h,by rw[g];exact d⟩
   by_cases c:Aq ⟨path.toArray⟩ xs≠[]
   .rw[ώ c];exact(ώ (this.1 c)).symm
   .rw[ύ c];exact(ύ (λp=>c (this.2 p))).symm
  .have t:¬((Thk.kindOf path).toNat:Int)=102:=V
   rw[ύ m,ύ t];by_cases n:(Thk.kindOf path).toNat=99
   .have u:((Thk.kindOf path).toNat:Int)=99:=V
    rw[ώ n,ώ u,JX];congr 1;have E:sumOf (Aq ⟨path.toArray⟩ xs)=(((xs.map key).filter λy=>y.1==path).map λy=>y.2.2.2).sum:=by rw[<- Z9];unfold sumOf;rw[ϑK];(first|done|rfl)
    have F:((i.filter λe=>ay e.p==path).map Ev.n).sum=(((i.map En).filter λy=>y.1==path).map λy=>y.2.2.2).sum:=by rw[List.filter_map,ϑK];(first|done|rfl)
    rw[E];show _=0+_;rw[F,Int.zero_add];exact X8 ((D.filter _).map _)
   .have u:¬((Thk.kindOf path).toNat:Int)=99:=V
    rw[ύ n,ύ u];refine(Rw _ _ λQ=>?_).symm;simp only[ι,Jw,ϑf];constructor
    .rintro⟨e,⟨b,d⟩,rfl⟩;obtain⟨x,h,f⟩:=ι.1 ((j _).2 (ι.2 ⟨e,b,rfl⟩));have g:ay x.p=ay e.p:=congrArg (·.1) f;have k:ay x.v=ay (aG e.a e.v):=congrArg (·.2.2.1) f;rw[(q e b (by simpa using d)).2 m n]at k;exact⟨x.v,⟨x,⟨h,by rw[g];exact d⟩,rfl⟩,k⟩
    .rintro⟨_,⟨x,⟨h,d⟩,rfl⟩,rfl⟩;have o:=d;obtain⟨e,b,f⟩:=ι.1 ((j _).1 (ι.2 ⟨x,h,rfl⟩));have g:ay e.p=ay x.p:=congrArg (·.1) f;have k:ay (aG e.a e.v)=ay x.v:=congrArg (·.2.2.1) f;rw[<- g]at o;rw[(q e b (by simpa using o)).2 m n]at k;exact⟨e,⟨b,o⟩,k⟩
def Ep{l:Thk.Bs}{c:Thk.Ch}(h:Thk.read l=.inr c)(g:jq c.act=true):lW c=l/\l.length=c.path.length+1+c.val.length:=by
 unfold Thk.read at h;split at h
 .cases h
 .rename_i h0;have t:l.findIdx Thk.eP<=l.length:=List.findIdx_le_length;generalize l.findIdx Thk.eP=k at *;have i:k<l.length:=V
  unfold Thk.jf at h;split at h
  .cases h
  .split at h
   .cases h
   .have e:=sN h;have j:l.take k++[l.getD k 0]++l.drop (k+1)=l:=by
     have p:l.drop k=l.getD k 0::l.drop (k+1):=by rw[List.drop_eq_getElem_cons i];simp[i]
     rw[ϑl,List.singleton_append,<- p,List.take_append_drop]
    have n:c.path=l.take k:=by rw[e]
    have o:c.act=l.getD k 0:=by rw[e]
    have d:c.val=l.drop (k+1):=by rw[e]
    refine⟨?_, ?_⟩
    .rw[<- o]at h;have b:c.path++[c.act]++c.val=l:=by rw[n,o,d];exact j
     unfold lW Dx;have r:ay ⟨c.path.toArray⟩=c.path:=rfl;rw[r];unfold jq at g;simp only[ϑw,ϑt]at g;unfold Thk.operand at h;by_cases f:c.act.toNat=43\/c.act.toNat=45\/c.act.toNat=61
     .unfold aG;rw[ώ f,ύ V,List.append_nil];exact b
     .rw[ύ f]at h;unfold aG;rw[ύ f];have s:ay ByteArray.empty=[]:=rfl;rw[s,List.append_nil];by_cases a:c.act.toNat=62
      .rw[ώ a];rw[ώ a]at h;split at h
       .rename_i m hm;have q:c.n=m:=(congrArg Thk.Ch.n (Sum.inr.inj h)).symm;rw[q,(Thk.zZ _ _ hm).2.1,<- d];exact b
       .cases h
      .rw[ύ a,List.append_nil];rw[ύ a]at h;split at h
       .rename_i hv;rw[<- d]at hv;rw[hv,List.append_nil]at b;exact b
       .cases h
    .rw[n,d];have:=congrArg List.length j;simp only[ρ,List.length_singleton]at this;exact this.symm
section
variable{es:List Ev}{D:List Nat}{n:Nat}{known:List Bool}{K:Nat->Nat}{C:Nat->Option Thk.Ch}
def Kn.ch(h:Kn es D known K C)(l:∀e∈es,∃s,Thk.read s=.inr (nM e)){k:Nat}{c:Thk.Ch}(a:C k=some c):jq c.act=true/\∃s,Thk.read s=.inr c:=by
 obtain⟨m,e,_,i,f,b⟩:=h.sup (d:=k) (by rw[a];simp);rw[a]at b;cases b
 obtain⟨⟨y,g,j⟩,_⟩:=(bZ es known m).1 i;rw[f]at g;cases g
 exact⟨j,l e (ϑC f)⟩
def Kn.chs(h:Kn es D known K C)(g:∀e∈es,∃s,Thk.read s=.inr (nM e)):∀k c,C k=some c->(c.act=43\/c.act=94\/c.act=61\/c.act=62)/\(-9223372036854775808<=c.n/\c.n<=9223372036854775807)/\c.path.length<=1048576/\(aG c.act ⟨c.val.toArray⟩).size<=1048576/\(lW c).length<=1000:=by
 intro k c f;obtain⟨b,s,d⟩:=h.ch g f;obtain⟨l,m,n,o,_⟩:=Thk.xM _ _ d;obtain⟨t1,t2⟩:=Ep d b;have i:=ql c.act ⟨c.val.toArray⟩;have j:(⟨c.val.toArray⟩:ByteArray).size=c.val.length:=by simp[ByteArray.size]
 refine⟨?_,⟨V,V⟩,V,V,by rw[t1];omega⟩;unfold jq at b;simp only[ϑw,ϑt]at b;rcases b with((a|a)|a)|a
 .exact τ (UInt8.toNat_inj.1 a)
 .exact υ (τ (UInt8.toNat_inj.1 a))
 .exact υ (υ (τ (UInt8.toNat_inj.1 a)))
 .exact υ (υ (υ (UInt8.toNat_inj.1 a)))
def Kn.mem(h:Kn es D known K C){d:Nat}(a:1<=nth d)(b:nth d<=K (who d)):d∈D:=by have:=(h.all (who d) (nth d) a b).2;rw[xZ]at this;exact this
def Kn.real(h:Kn es D known K C)(c:uX es D n){l:List Nat}(e:l.Nodup)(b:∀d∈l,d∈D/\nth d<=K (who d)):l.length<=kH D :=
 lN e (λd a=>ϑf.2 ⟨(b d a).1,by simpa using h.w6 (c.ok d (b d a).1).1 (b d a).2⟩)
def Kn.xs(h:Kn es D known K C)(g:uX es D n)(k:kH D<=505){xs:List jB}(b:ny (aU C) xs):xs.length<=505:=by have:=h.real g b.1.1 (λd j=>by have c:=dO.1 ((b.1.2 d).1 j);obtain⟨i,e,a,f,_⟩:=h.sup c;exact⟨ϑC a,(h.vec i d a).1 ((bZ es known i).1 f).2.1⟩);rw[ϑh]at this;omega
def Kn.aD1(h:Kn es D known K C)(f:uX es D n)(a:kH D<=505)(l:∀e∈es,Np e):DV (ny (aU C)):=by
 have k:∀e∈wC es (aH es known es.length),e∈es:=λe a=>by obtain⟨q,_,j⟩:=List.mem_filterMap.1 a;exact ϑC j
 constructor
 .intro o d;have:=h.xs f a d;omega
 .intro o d x m;obtain⟨e,a,c⟩:=ι.1 ((h.perm f d).mem_iff.1 (ι.2 ⟨x,m,rfl⟩));have b:=l e (k e a);unfold En key at c;simp only[Prod.mk.injEq]at c;obtain⟨g,_,i,p⟩:=c;have r:x.p.size=e.p.size:=by rw[<- aB,<- aB,g]
  have s:x.v.size=(aG e.a e.v).size:=by rw[<- aB,<- aB,i]
  have t:=ql e.a e.v;have:=b.p;have:=b.v;have:=b.n1;have:=b.n2;exact⟨V,V,V,V⟩
