import Derived.Test.YtfmmllpjgkgeaaaGreatDoorPartS35
set_option linter.unusedVariables false
set_option linter.unusedSimpArgs false
set_option maxHeartbeats 16000000
set_option maxRecDepth 100000
namespace Go.Proofs.YtfmmllpjgkgeaaaGreatDoor
section
structure mV(Ξ:Type) where
 S:Nat->Prop
 C:Nat->Option Ξ
variable{Ξ:Type}
def mV.gone(a:mV Ξ)(d:Nat):Prop:=a.S d/\a.C d=none
structure mV.le(a b:mV Ξ):Prop where
 s:∀d,a.S d->b.S d
 g:∀d,a.gone d->b.gone d
theorem mV.le.trans{a b c:mV Ξ}(h:a.le b)(k:b.le c):a.le c:=⟨λd e=>k.s d (h.s d e),λd e=>k.g d (h.g d e)⟩
theorem mV.le.refl(a:mV Ξ):a.le a:=⟨λ_ h=>h,λ_ h=>h⟩
structure Brings(D i j:mV Ξ):Prop where
 a:∀d,D.S d->i.S d
 b:∀d,i.S d->D.S d\/j.S d
 c:∀d c,D.C d=some c->i.C d=some c\/j.gone d
 d:∀d,D.gone d->i.gone d
 e:∀d,i.gone d->D.gone d\/j.gone d
theorem Brings.whole(i j:mV Ξ):Brings i i j:=⟨λ_ h=>h,λ_ h=>τ h,λ_ _ h=>τ h,λ_ h=>h,λ_ h=>τ h⟩
theorem Brings.later{D i j j':mV Ξ}(h:Brings D i j)(b:j.le j'):Brings D i j' :=
 ⟨h.a,λd a=>(h.b d a).imp id (b.s d),λd c e=>(h.c d c e).imp id (b.g d),h.d,λd a=>(h.e d a).imp id (b.g d)⟩
def mV.join(a b:mV Ξ)(r:mV Ξ):Prop:=(∀d,r.S d↔a.S d\/b.S d)/\(∀d,r.gone d↔a.gone d\/b.gone d)/\∀d c,r.C d=some c->a.C d=some c\/b.C d=some c
theorem Brings.join{D i j r:mV Ξ}(h:Brings D i j)(m:mV.join D j r):mV.join i j r:=by
 obtain⟨k,g,l⟩:=m;refine⟨λd=>?_,λd=>?_,λd f e=>?_⟩
 .rw[k];constructor
  .rintro(a|a)
   .exact τ (h.a d a)
   .exact υ a
  .rintro(a|a)
   .exact h.b d a
   .exact υ a
 .rw[g];constructor
  .rintro(a|a)
   .exact τ (h.d d a)
   .exact υ a
  .rintro(a|a)
   .exact h.e d a
   .exact υ a
 .rcases l d f e with b|b
  .rcases h.c d f b with c|c
   .exact τ c
   .have:r.gone d:=(g d).2 (υ c);rw[this.2]at e;cases e
  .exact υ b
end
section
open Go.RowKit
variable{e:Ev}{known:List Bool}{es:List Ev}{k:Nat}
def jL(e:Ev):Thk.Ch:=⟨toL e.p,e.a,toL e.v,e.n⟩
theorem JM{d:Nat}(a:d<es.length)(b:k<es.length):nN (es++[e]) known k d=nN es known k d:=by unfold nN;rw[ε a,ε b]
theorem yx(a:k<es.length):∀d,d<=es.length->dF (es++[e]) known k d=dF es known k d
 | 0,_=>rfl
 | d+1,h=>by unfold dF;rw[yx a d V,JM V a]
theorem alive_app(c:known.length<=es.length)(a:k<es.length):alive (es++[e]) known k=alive es known k:=by
 unfold alive;rw[ε a,ρ];have b:dF (es++[e]) known k (es.length+1)=dF es known k es.length:=by
  rw[dF,yx a _ (χ _)];have:nN (es++[e]) known k es.length=false:=by unfold nN;rw[getD_len c];split<;>simp
  rw[this];simp
 rw[show [e].length=1 from rfl,b]
theorem JO(e:Thk.Bs)(a:UInt8)(d:Thk.Bs)(f:Thk.Bs)(b:UInt8)(ev:Thk.Bs):jQ e a (toL (au a ⟨d.toArray⟩)) f b (toL (au b ⟨ev.toArray⟩))=jQ e a d f b ev:=by
 have g:∀(c:UInt8)(v:Thk.Bs),c.toNat=43\/c.toNat=45->toL (au c ⟨v.toArray⟩)=v:=λc v k=>by unfold au;rw[ώ V];(first|done|rfl)
 unfold jQ;split
 .rfl
 .split
  .rfl
  .split
   .rename_i h43;have h:toL (au b ⟨ev.toArray⟩)=ev:=g b ev (τ V);rw[h];by_cases i:a.toNat=43\/a.toNat=45
    .rw[g a d i]
    .have j:((a.toNat:Int)==43||(a.toNat:Int)==45)=false:=Θ
     rw[j];(first|done|rfl)
   .rfl
theorem yA(es:List Ev)(known:List Bool)(k:Nat):∀n,dF es known k n=true↔∃d,k<d/\d<n/\nN es known k d=true
 | 0=>by simp[dF]
 | n+1=>by
  rw[dF,Bool.or_eq_true,yA es known k n,γ,decide_eq_true_eq];constructor
  .rintro(⟨d,a,c,b⟩|⟨a,c⟩)
   .exact⟨d,a,V,b⟩
   .exact⟨n,a,V,c⟩
  .rintro⟨d,a,c,b⟩;by_cases e:d=n
   .subst e;exact υ ⟨a,b⟩
   .exact τ ⟨d,a,V,b⟩
def su(es:List Ev)(k d:Nat):Bool :=
 match es[d]?,es[k]? with
 | some x,some y=>x.saw.getD k false&&jQ (toL x.p) x.a (toL x.v) (toL y.p) y.a (toL y.v)
 | _,_=>false
theorem vV(es:List Ev)(known:List Bool)(k d:Nat):nN es known k d=(known.getD d false&&su es k d):=by
 unfold nN su;cases es[d]? with
 | none=>simp
 | some x =>
  cases es[k]? with
  | none=>simp
  | some y=>simp only[Bool.and_assoc]
theorem alive_iff(es:List Ev)(known:List Bool)(k:Nat):alive es known k=true↔(∃y,es[k]?=some y/\eG y.a=true)/\known.getD k false=true/\∀d,k<d->d<es.length->known.getD d false=true->su es k d=false:=by
 unfold alive;cases he:es[k]? with
 | none=>simp
 | some y =>
  simp only[γ,Bool.not_eq_true',Option.some.injEq,exists_eq_left'];rw[and_assoc,<- Bool.not_eq_true (dF es known k es.length),yA];refine and_congr_right λ_=>and_congr_right λ_=>⟨λh d b c a=>?_,λh=>?_⟩
  .cases hc:su es k d with
   | false=>rfl
   | true=>exact absurd ⟨d,b,c,by rw[vV,a,hc];rfl⟩ h
  .rintro⟨d,b,c,a⟩;rw[vV,γ]at a;rw[h d b c a.1]at a;cases a.2
theorem NT{d:Nat}(h:su es k d=true):∃x,es[d]?=some x/\x.saw.getD k false=true:=by
 unfold su at h;split at h
 .rename_i x y hx hy;rw[γ]at h;exact⟨x,hx,h.1⟩
 .cases h
structure EvD(es:List Ev)(D:List Nat)(n:Nat):Prop where
 len:D.length=es.length
 nd:D.Nodup
 ok:∀d∈D,who d<n/\1<=nth d/\nth d<=500
structure Kn(es:List Ev)(D:List Nat)(known:List Bool)(K:Nat->Nat)(C:Nat->Option Thk.Ch):Prop where
 len:known.length<=es.length
 vec:∀i d,D[i]?=some d->(known.getD i false=true↔nth d<=K (who d))
 all:∀x m,1<=m->m<=K x->m<512/\mkD x m∈D
 cl:∀d e i,es[d]?=some e->known.getD d false=true->e.saw.getD i false=true->known.getD i false=true
 c1:∀i d,D[i]?=some d->C d=if alive es known i=true then(es[i]?).map jL else none
 c2:∀d,d ∉ D->C d=none
section
variable{es:List Ev}{D:List Nat}{n:Nat}{known:List Bool}{K:Nat->Nat}{C:Nat->Option Thk.Ch}
theorem Kn.nil:Kn [] [] [] (λ_=>0) (λ_=>none):=⟨χ _,λi d h=>by simp at h,λx m a b=>V,λd e i h=>by simp at h,λi d h=>by simp at h,λd _=>rfl⟩
theorem Kn.XM(h:Kn es D known K C){d:Nat}(b:d ∉ D)(a:1<=nth d):¬nth d<=K (who d):=λc=>by have:=(h.all (who d) (nth d) a c).2;rw[qX]at this;exact b this
theorem Kn.sup(h:Kn es D known K C){d:Nat}(b:C d≠none):∃i e,D[i]?=some d/\alive es known i=true/\es[i]?=some e/\C d=some (jL e):=by
 by_cases c:d∈D
 .obtain⟨i,j,rfl⟩:=List.getElem_of_mem c;have f:D[i]?=some D[i]:=σ j;have:=h.c1 i _ f;by_cases a:alive es known i=true
  .rw[ώ a]at this;obtain⟨⟨y,g,_⟩,_⟩:=(alive_iff es known i).1 a;rw[g]at this;exact⟨i,y,f,a,g,this⟩
  .rw[ύ a]at this;exact absurd this b
 .exact absurd (h.c2 d c) b
theorem Kn.other(h:Kn es D known K C)(g:EvD es D n)(e:Ev)(d:Nat)(m:d ∉ D)(s:1<=nth d):Kn (es++[e]) (D++[d]) known K C:=by
 have q:=h.len;have p:known.getD es.length false=false:=getD_len q;refine⟨Θ,λi x a=>?_,λx r l c=>⟨(h.all x r l c).1,θ.2 (τ (h.all x r l c).2)⟩,λx y i a k v=>?_,λi x a=>?_,λx a=>h.c2 x (λu=>a (θ.2 (τ u)))⟩
 .by_cases b:i<D.length
  .rw[ε b]at a;exact h.vec i x a
  .by_cases f:i=D.length
   .subst f;simp at a;subst a;rw[g.len,p];exact⟨λt=>(by cases t),λc=>absurd c (h.XM m s)⟩
   .rw[List.getElem?_eq_none Θ]at a;cases a
 .by_cases b:x<es.length
  .rw[ε b]at a;exact h.cl x y i a k v
  .rw[getD_len V]at k;cases k
 .by_cases b:i<D.length
  .rw[ε b]at a;have o:i<es.length:=by rw[<- g.len];exact b
   rw[alive_app q o,ε o];exact h.c1 i x a
  .by_cases f:i=D.length
   .subst f;simp at a;subst a;have j:¬alive (es++[e]) known D.length=true:=λj=>by have:=((alive_iff _ _ _).1 j).2.1;rw[g.len,p]at this;cases this
    rw[ύ j];exact h.c2 _ m
   .rw[List.getElem?_eq_none Θ]at a;cases a
theorem Kn.mine(h:Kn es D known K C)(v:EvD es D n)(e:Ev)(c:Thk.Ch)(U:jL e=c)(hs:e.saw=known)(a:Nat)(hK:K a+1<=500)(G:mkD a (K a+1) ∉ D):Kn (es++[e]) (D++[mkD a (K a+1)]) (moreOf known es.length) (inc K a) (stepC C c (mkD a (K a+1))):=by
 have L:=h.len;have k:=qV known es.length L;have a4:known.getD es.length false=false:=getD_len L;obtain⟨d,B⟩:∃d,d=mkD a (K a+1):=⟨_,rfl⟩;have hw:who d=a:=by rw[B];exact bW V
 have Z:nth d=K a+1:=by rw[B];exact aZ V
 rw[<- B]at G⊢;have E:(es++[e])[es.length]?=some e:=Ω
 have Y:∀i x,(D++[d])[i]?=some x->(i<D.length/\D[i]?=some x)\/(i=D.length/\x=d):=λi x b=>by
  by_cases o:i<D.length
  .rw[ε o]at b;exact τ ⟨o,b⟩
  .by_cases u:i=D.length
   .subst u;simp at b;exact υ ⟨rfl,b.symm⟩
   .rw[List.getElem?_eq_none Θ]at b;cases b
 refine⟨by rw[fF _ _ L];simp,λi x b=>?_,λx N m g=>?_,λx y i b t M=>?_,λi x b=>?_,λx b=>?_⟩
 .rcases Y i x b with⟨o,b⟩|⟨rfl,rfl⟩
  .have:¬i=es.length:=by rw[<- v.len];omega
   rw[k,Bool.or_eq_true,h.vec i x b];simp only[this,decide_false,Bool.false_eq_true,or_false];by_cases p:who x=a
   .rw[p,bP];refine⟨λh=>V,λT=>?_⟩;by_cases F:nth x=K a+1
    .exact absurd (List.mem_of_getElem? b) (by rw[jl (x:=x) (y:=d) (by rw[p,hw]) (by rw[F,Z])];exact G)
    .omega
   .rw[eY p]
  .rw[k,hw,bP,Z,v.len];simp
 .by_cases p:x=a
  .subst p;rw[bP]at g;by_cases F:N=K x+1
   .rw[F,<- B];exact⟨V,Ω⟩
   .obtain⟨P,Q⟩:=h.all x N m V;exact⟨P,θ.2 (τ Q)⟩
  .rw[eY p]at g;obtain⟨P,Q⟩:=h.all x N m g;exact⟨P,θ.2 (τ Q)⟩
 .rw[k,Bool.or_eq_true]at t⊢;by_cases o:x<es.length
  .rw[ε o]at b;rcases t with t|t
   .exact τ (h.cl x y i b t M)
   .rw[decide_eq_true_eq]at t;omega
  .by_cases u:x=es.length
   .subst u;rw[E]at b;cases b
    rw[hs]at M;exact τ M
   .rw[List.getElem?_eq_none Θ]at b;cases b
 .rcases Y i x b with⟨o,b⟩|⟨rfl,rfl⟩
  .have a3:¬x=d:=λu=>G (u▸List.mem_of_getElem? b);have r:i<es.length:=by rw[<- v.len];exact o
   have R:es[i]?=some es[i]:=σ r;unfold stepC;rw[ύ a3,h.c1 i x b,ε r,R];have a2:¬i=es.length:=V
   have X:su (es++[e]) i es.length=(known.getD i false&&jQ (toL e.p) e.a (toL e.v) (toL es[i].p) es[i].a (toL es[i].v)):=by unfold su;rw[E,ε r,R];simp only[];rw[hs]
   have W:∀j,j<es.length->su (es++[e]) i j=su es i j:=λj s=>by unfold su;rw[ε s,ε r]
   have a1:pU c.path c.act (toL (au c.act ⟨c.val.toArray⟩)) (jL es[i])=jQ (toL e.p) e.a (toL e.v) (toL es[i].p) es[i].a (toL es[i].v):=by subst U;exact JO _ _ _ _ _ _
   have q:alive (es++[e]) (moreOf known es.length) i=true↔alive es known i=true/\jQ (toL e.p) e.a (toL e.v) (toL es[i].p) es[i].a (toL es[i].v)=false:=by
    rw[alive_iff,alive_iff,ε r,k];simp only[a2,decide_false,Bool.or_false,ρ,List.length_singleton];constructor
    .rintro⟨l,m,g⟩;refine⟨⟨l,m,λj s H w=>?_⟩, ?_⟩
     .rw[<- W j H];exact g j s V (by rw[k,w];rfl)
     .have:=g es.length r V (by rw[k];simp);rw[X,m]at this;simpa using this
    .rintro⟨⟨l,m,g⟩,T⟩;refine⟨l,m,λj s H w=>?_⟩;by_cases S:j=es.length
     .subst S;rw[X,T];simp
     .rw[W j V];rw[k]at w;simp only[S,decide_false,Bool.or_false]at w;exact g j s V w
   by_cases A:alive es known i=true
   .rw[ώ A];simp only[Option.map_some,a1];cases hcb:jQ (toL e.p) e.a (toL e.v) (toL es[i].p) es[i].a (toL es[i].v) with
    | true=>rw[ώ rfl,ύ (λf=>by rw[(q.1 f).2]at hcb;cases hcb)]
    | false=>rw[ύ Ω,ώ (q.2 ⟨A,hcb⟩)]
   .rw[ύ A,ύ (λf=>A (q.1 f).1)]
  .unfold stepC;have q:alive (es++[e]) (moreOf known es.length) D.length=true↔eG e.a=true:=by
    rw[alive_iff,v.len,E,k];simp only[ρ,List.length_singleton];constructor
    .rintro⟨⟨y,hy,l⟩,_⟩;cases hy;exact l
    .intro l;exact⟨⟨e,rfl,l⟩,Ω,λj s H _=>V⟩
   have a0:(es++[e])[D.length]?=some e:=by rw[v.len];exact E
   rw[ώ rfl,a0];subst U;by_cases f:eG e.a=true
   .rw[ώ (q.2 f)];exact ώ f
   .rw[ύ (λh6=>f (q.1 h6))];exact ύ f
 .unfold stepC;rw[θ,List.mem_singleton]at b;rw[ύ (λf=>b (υ f)),h.c2 x (λf=>b (τ f))]
theorem Kn.join{k2:List Bool}{w:Nat->Nat}{L:Nat->Option Thk.Ch}(q:Kn es D known K C)(r:Kn es D k2 w L):Kn es D (bothL known k2) (gu K w) (fD K C w L):=by
 have P:∀(p u:List Bool)i,(∀d e i,es[d]?=some e->u.getD d false=true->e.saw.getD i false=true->u.getD i false=true)->p.getD i false=true->u.getD i false=false->∀F:List Bool,(∀j,F.getD j false=(p.getD j false||u.getD j false))->(alive es F i=true↔alive es p i=true):=by
  intro p u i T S a F E;rw[alive_iff,alive_iff,E,S,a];simp only[Bool.or_false,true_and];refine and_congr_right λ_=>⟨λg j m n b=>g j m n (by rw[E,b];rfl),λg j m n b=>?_⟩;rw[E,Bool.or_eq_true]at b;rcases b with b|b
  .exact g j m n b
  .cases hc:su es i j with
   | false=>rfl
   | true =>obtain⟨x,W,U⟩:=NT hc;rw[T j x i W b U]at a;cases a
 refine⟨by rw[gJ];have:=q.len;have:=r.len;omega,λi d l=>?_,λx G a g=>?_,λd e i M s N=>?_,λi d l=>?_,λd l=>?_⟩
 .rw[bU,Bool.or_eq_true,q.vec i d l,r.vec i d l];unfold gu;omega
 .unfold gu at g;by_cases B:G<=K x
  .exact q.all x G a B
  .exact r.all x G a V
 .rw[bU,Bool.or_eq_true]at s⊢;rcases s with s|s
  .exact τ (q.cl d e i M s N)
  .exact υ (r.cl d e i M s N)
 .have Q:=q.vec i d l;have H:=r.vec i d l;have f:=q.c1 i d l;have c:=r.c1 i d l;have y:∀(p:List Bool),p.getD i false=false->¬alive es p i=true:=λp a g=>by rw[((alive_iff es p i).1 g).2.1]at a;cases a
  unfold fD;cases k1:known.getD i false with
  | true =>
   have A:=Q.1 k1;cases NU:k2.getD i false with
   | true =>
    have v:=H.1 NU;have o:alive es (bothL known k2) i=true↔alive es known i=true/\alive es k2 i=true:=by
     rw[alive_iff,alive_iff,alive_iff,bU,k1,NU];simp only[Bool.or_self,true_and];constructor
     .rintro⟨a,g⟩;exact⟨⟨a,λj m n b=>g j m n (by rw[bU,b];rfl)⟩,a,λj m n b=>g j m n (by rw[bU,b];simp)⟩
     .rintro⟨⟨a,g⟩,_,B⟩;refine⟨a,λj m n b=>?_⟩;rw[bU,Bool.or_eq_true]at b;rcases b with b|b
      .exact g j m n b
      .exact B j m n b
    by_cases h:alive es known i=true
    .by_cases k:alive es k2 i=true
     .rw[ώ (o.2 ⟨h,k⟩)];rw[ώ h]at f;rw[ώ k]at c;obtain⟨⟨R,t,_⟩,_⟩:=(alive_iff es known i).1 h;rw[t]at f c⊢;rw[f,c,ύ Ω];rfl
     .rw[ύ (λa=>k (o.1 a).2)];rw[ύ k]at c;rw[ώ (υ ⟨c,v⟩)]
    .rw[ύ (λa=>h (o.1 a).1)];rw[ύ h]at f;rw[ώ (τ ⟨f,A⟩)]
   | false =>
    have v:¬nth d<=w (who d):=λa=>by rw[H.2 a]at NU;cases NU
    have o:=P known k2 i r.cl k1 NU (bothL known k2) (λj=>bU _ _ j);rw[ύ (y k2 NU)]at c;rw[c];by_cases h:alive es known i=true
    .rw[ώ (o.2 h)];rw[ώ h]at f;obtain⟨⟨R,t,_⟩,_⟩:=(alive_iff es known i).1 h;rw[t]at f⊢;rw[f,ύ (by simp[v])];rfl
    .rw[ύ (λa=>h (o.1 a))];rw[ύ h]at f;rw[ώ (τ ⟨f,A⟩)]
  | false =>
   have A:¬nth d<=K (who d):=λa=>by rw[Q.2 a]at k1;cases k1
   rw[ύ (y known k1)]at f;rw[f];cases NU:k2.getD i false with
   | true =>
    have v:=H.1 NU;have o:=P k2 known i q.cl NU k1 (bothL known k2) (λj=>by rw[bU,Bool.or_comm]);by_cases k:alive es k2 i=true
    .rw[ώ (o.2 k)];rw[ώ k]at c;obtain⟨⟨R,t,_⟩,_⟩:=(alive_iff es k2 i).1 k;rw[t]at c⊢;rw[c,ύ (by simp[A])];rfl
    .rw[ύ (λa=>k (o.1 a))];rw[ύ k]at c;rw[ώ (υ ⟨c,v⟩)]
   | false =>rw[ύ (y k2 NU)]at c;rw[c,ύ (y (bothL known k2) (by rw[bU,k1,NU];rfl))];split<;>rfl
 .unfold fD;rw[q.c2 d l,r.c2 d l];split<;>rfl
theorem Kn.same{k2:List Bool}{j:Nat->Nat}{f:Nat->Option Thk.Ch}(h:Kn es D known K C)(k:Kn es D k2 j f):∀d c c',C d=some c->f d=some c'->c=c':=by
 intro d c c' e l;have n:d∈D:=Classical.byContradiction λm=>by rw[h.c2 d m]at e;cases e
 obtain⟨i,o,rfl⟩:=List.getElem_of_mem n;have g:D[i]?=some D[i]:=σ o;have b:=h.c1 i _ g;have a:=k.c1 i _ g;rw[e]at b;rw[l]at a;split at b
 .split at a
  .rw[<- b]at a;cases a;rfl
  .cases a
 .cases b
end
theorem G5:∀(a b:Thk.Bs),Thk.kV a b=true↔a<b
 | [],[]=>by simp[Thk.kV]
 | [],_::_=>by simp[Thk.kV]
 | _::_,[]=>by simp[Thk.kV]
 | a::l,b::m=>by rw[Thk.kV,List.cons_lt_cons_iff,<- G5 l m];simp only[Bool.or_eq_true,γ,decide_eq_true_eq,beq_iff_eq,UInt8.lt_iff_toNat_lt]
theorem iM:∀a:Thk.Bs,Thk.kV a a=false
 | []=>rfl
 | a::l=>by rw[Thk.kV,iM l];simp
theorem fA:∀(a b c:Thk.Bs),Thk.kV a b=true->Thk.kV b c=true->Thk.kV a c=true
 | [],[],_,h,_=>by simp[Thk.kV]at h
 | [],_::_,[],_,h=>by simp[Thk.kV]at h
 | [],_::_,_::_,_,_=>rfl
 | _::_,[],_,h,_=>by simp[Thk.kV]at h
 | _::_,_::_,[],_,h=>by simp[Thk.kV]at h
 | a::l,b::m,c::n,e,d=>by
  simp only[Thk.kV,Bool.or_eq_true,γ,decide_eq_true_eq,beq_iff_eq]at e d⊢;rcases e with e|⟨rfl,e⟩
  .rcases d with d|⟨rfl,d⟩
   .exact τ V
   .exact τ e
  .rcases d with d|⟨rfl,d⟩
   .exact τ d
   .exact υ ⟨rfl,fA l m n e d⟩
theorem kE:∀(a b:Thk.Bs),Thk.kV a b=true\/a=b\/Thk.kV b a=true
 | [],[]=>υ (τ rfl)
 | [],_::_=>τ rfl
 | _::_,[]=>υ (υ rfl)
 | a::l,b::m=>by
  simp only[Thk.kV,Bool.or_eq_true,γ,decide_eq_true_eq,beq_iff_eq];by_cases h:a.toNat<b.toNat
  .exact τ (τ h)
  .by_cases d:b.toNat<a.toNat
   .exact υ (υ (τ d))
   .have e:a=b:=UInt8.toNat_inj.1 V;subst e;rcases kE l m with c|c|c
    .exact τ (υ ⟨rfl,c⟩)
    .exact υ (τ (by rw[c]))
    .exact υ (υ (υ ⟨rfl,c⟩))
theorem qR(a b:Thk.Bs):decide (a<=b) = !Thk.kV b a:=by
 have h:=G5 b a;by_cases c:b<a
 .have:¬a<=b:=λd=>d c;rw[h.2 c];simp[this]
 .have d:a<=b:=c;have e:Thk.kV b a=false:=by rw[<- Bool.not_eq_true];exact λf=>c (h.1 f)
  rw[e];simp[d]
def kQ(l:List Thk.Bs):Prop:=l.Pairwise λa b=>Thk.kV a b=true
theorem kQ.nodup{l:List Thk.Bs}(h:kQ l):l.Nodup:=List.Pairwise.imp (λ{a b}h e=>by rw[e,iM]at h;cases h) h
theorem DF{l m:List Thk.Bs}(a:kQ l)(b:kQ m)(h:∀x,x∈l↔x∈m):l=m :=
 List.Perm.eq_of_pairwise (λe f _ _ c d=>by have:=fA _ _ _ c d;rw[iM]at this;cases this) a b ((List.perm_ext_iff_of_nodup a.nodup b.nodup).2 h)
theorem zZ{zs:List Thk.Bs}(r:zs.Pairwise λo p=>Thk.kV p o=false):kQ (Lib.compact zs)/\∀x,x∈Lib.compact zs↔x∈zs:=by
 have b:∀j,j<zs.length->zs.toArray[j]! = zs.getD j []:=λj a=>by simp[a]
 have m:∀i j,i<j->j<zs.length->Thk.kV (zs.getD j []) (zs.getD i [])=false:=λi j l a=>by have:=(List.pairwise_iff_getElem.1 r) i j V a l;rw[ξ,ξ,σ a,σ (V:i<zs.length)];exact this
 constructor
 .unfold kQ Lib.compact Lib.compactUpTo;rw[List.pairwise_map];have q:((List.range zs.length).filter (Lib.keeps zs.toArray)).Pairwise (· < ·):=List.Pairwise.filter _ List.pairwise_lt_range;refine List.Pairwise.imp_of_mem ?_ q;intro i j d a l;rw[List.mem_filter,List.mem_range]at d a;have c:=a.2;unfold Lib.keeps at c;simp only[decide_eq_true_eq]at c;have n:zs.toArray[j]!≠zs.toArray[j-1]!:=by rcases c with h|h;omega;exact h
  rw[b j a.1,b (j-1) V]at n;rw[b i d.1,b j a.1];have f:Thk.kV (zs.getD (j-1) []) (zs.getD j [])=true:=by
   rcases kE (zs.getD (j-1) []) (zs.getD j [])with h|h|h
   .exact h
   .exact absurd h.symm n
   .rw[m (j-1) j V a.1]at h;cases h
  by_cases e:i=j-1
  .rw[e];exact f
  .rcases kE (zs.getD i []) (zs.getD (j-1) [])with h|h|h
   .exact fA _ _ _ h f
   .rw[h];exact f
   .rw[m i (j-1) V V]at h;cases h
 .intro x;unfold Lib.compact Lib.compactUpTo;constructor
  .intro g;obtain⟨i,d,rfl⟩:=ι.1 g;rw[List.mem_filter,List.mem_range]at d;rw[b i d.1,ξ,σ d.1];exact κ _
  .intro g;obtain⟨j,a,rfl⟩:=List.getElem_of_mem g;have key:∀j(a:j<zs.length),zs[j]∈((List.range zs.length).filter (Lib.keeps zs.toArray)).map (zs.toArray[·]!):=by
    intro j;induction j with
    | zero=>intro a;exact ι.2 ⟨0,List.mem_filter.2 ⟨List.mem_range.2 a,by simp[Lib.keeps]⟩,by rw[b 0 a,ξ,σ a];rfl⟩
    | succ j ih =>
     intro a;by_cases c:Lib.keeps zs.toArray (j+1)=true
     .exact ι.2 ⟨j+1,List.mem_filter.2 ⟨List.mem_range.2 a,c⟩,by rw[b _ a,ξ,σ a];rfl⟩
     .have k:zs.toArray[j+1]! = zs.toArray[j]!:=by unfold Lib.keeps at c;simp only[decide_eq_true_eq,not_or,ne_eq,Decidable.not_not]at c;exact c.2
      rw[b _ a,b j V,ξ,ξ,σ a,σ (V:j<zs.length)]at k;have:=ih V;rw[show zs[j+1]=zs[j]from k];exact this
   exact key j a
theorem G6(l:List Thk.Bs)(s x:Thk.Bs):x∈Thk.ins l s↔x=s\/x∈l:=by
 induction l with
 | nil=>simp[Thk.ins]
 | cons y r ih =>
  unfold Thk.ins;split
  .rename_i h;subst h;simp
  .split
   .simp
   .simp only[List.mem_cons,ih];constructor
    .rintro(h|h|h)
     .exact υ (τ h)
     .exact τ h
     .exact υ (υ h)
    .rintro(h|h|h)
     .exact υ (τ h)
     .exact τ h
     .exact υ (υ h)
theorem NV{l:List Thk.Bs}(h:kQ l)(s:Thk.Bs):kQ (Thk.ins l s):=by
 induction l with
 | nil=>exact List.pairwise_singleton _ _
 | cons y r ih =>
  have d:=List.pairwise_cons.1 h;unfold Thk.ins;split
  .exact h
  .split
   .rename_i h2 h3;exact List.pairwise_cons.2 ⟨λc a=>by
     rcases List.mem_cons.1 a with e|a
     .rw[e];exact h3
     .exact fA _ _ _ h3 (d.1 c a),h⟩
   .rename_i h2 h3;refine List.pairwise_cons.2 ⟨λc a=>?_,ih d.2⟩;rcases(G6 r s c).1 a with e|a
    .rw[e];rcases kE y s with b|b|b
     .exact b
     .exact absurd b.symm h2
     .exact absurd b h3
    .exact d.1 c a
theorem vW:∀(a b:Thk.Bs),Op.bytesLess a b=Thk.kV a b
 | [],[]=>rfl
 | [],_::_=>rfl
 | _::_,[]=>rfl
 | a::l,b::m=>by rw[Op.bytesLess,Thk.kV,vW l m];simp[UInt8.lt_iff_toNat_lt]
theorem jE(s:Thk.Bs):∀(l o:List Thk.Bs),(∀x∈l,x≠s)->l.foldl (aI s) (o,true)=(o++l,true)
 | [],o,_=>Ω
 | x::r,o,h=>by
  have a:x≠s:=h x Ω;rw[List.foldl_cons];have e:aI s (o,true) x=(o++[x],true):=by unfold aI;simp[a]
  rw[e,jE s r _ (λy b=>h y (by simp[b]))];simp
theorem yB(s:Thk.Bs):∀(l o:List Thk.Bs),kQ l->(if(l.foldl (aI s) (o,false)).2 then(l.foldl (aI s) (o,false)).1 else(l.foldl (aI s) (o,false)).1++[s])=o++Thk.ins l s
 | [],o,_=>by simp[Thk.ins]
 | x::r,o,h=>by
  have b:=List.pairwise_cons.1 h;rw[List.foldl_cons];unfold Thk.ins;by_cases e:s=x
  .subst e;have a:aI s (o,false) s=(o++[s],true):=by unfold aI;simp
   rw[a,jE s r _ (λy d c=>by have:=b.1 y d;rw[c,iM]at this;cases this)];simp
  .rw[ύ e];cases hlt:Thk.kV s x with
   | true =>
    have a:aI s (o,false) x=(o++[s]++[x],true):=by unfold aI;rw[vW,hlt];simp[Ne.symm e]
    rw[a,jE s r _ (λy d c=>by have:=fA _ _ _ hlt (b.1 y d);rw[c,iM]at this;cases this)];simp
   | false =>
    have f:(s==x)=false:=by simpa using e
    have a:aI s (o,false) x=(o++[x],false):=by unfold aI;rw[vW,hlt,f];simp[Ne.symm e]
    rw[a,yB s r _ b.2];simp
theorem NW{l:List Thk.Bs}(h:kQ l)(s:Thk.Bs):iF l s=Thk.ins l s:=by have:=yB s l [] h;unfold iF;rw[this];simp
theorem yC:∀(L l:List Thk.Bs),kQ l->kQ (L.foldl iF l)/\∀x,x∈L.foldl iF l↔x∈l\/x∈L
 | [],l,h=>⟨h,λx=>Ω⟩
 | s::L,l,h=>by
  rw[List.foldl_cons,NW h s];obtain⟨a,b⟩:=yC L (Thk.ins l s) (NV h s);refine⟨a,λx=>?_⟩;rw[b,G6];simp only[List.mem_cons];constructor
  .rintro((h|h)|h)
   .exact υ (τ h)
   .exact τ h
   .exact υ (υ h)
  .rintro(h|h|h)
   .exact τ (υ h)
   .exact τ (τ h)
   .exact υ h
theorem rP(x:Thk.Bs)(r:List Thk.Bs):∀k,k<=r.length->Thk.fU (x::r) (k+1)=x++Lib.joinTail [44] (r.take k)
 | 0,_=>by simp[Thk.fU,Lib.joinTail]
 | k+1,h=>by
  have a:k<r.length:=V
  rw[Thk.fU,ύ V,rP x r k V,Lib.joinTail_take_succ [44] r k r[k] (σ a)];have:(x::r).getD (k+1) []=r[k]:=by simp[a]
  rw[this];simp
theorem DI(l:List Thk.Bs):Thk.fU l l.length=Lib.join l [44]:=by
 cases l with
 | nil=>rfl
 | cons x r=>rw[δ,rP x r _ (χ _),List.take_length,Lib.join_cons]
theorem G7(L L':List Thk.Bs)(j:∀x,x∈L↔x∈L'):Thk.fU (L.foldl iF []) (L.foldl iF []).length=iG L':=by
 rw[DI];unfold iG;obtain⟨k,l⟩:=yC L [] List.Pairwise.nil;have m:(L'.mergeSort λx y=>decide (x<=y)).Pairwise λc b=>Thk.kV b c=false:=by
  have:=List.pairwise_mergeSort (le:=λx y:Thk.Bs=>decide (x<=y)) (λc b i=>?_) (λc b=>?_) L'
  .refine List.Pairwise.imp ?_ this;intro c b h;rw[qR]at h;simpa using h
  .rw[qR,qR,qR];intro e f;simp only[Bool.not_eq_true']at e f⊢;rcases kE c b with a|a|a
   .rcases kE b i with d|d|d
    .have:=fA _ _ _ a d;rw[<- Bool.not_eq_true];intro g;have:=fA _ _ _ this g;rw[iM]at this;cases this
    .subst d;exact e
    .rw[f]at d;cases d
   .subst a;exact f
   .rw[e]at a;cases a
  .rw[qR,qR];rcases kE c b with a|a|a
   .have:Thk.kV b c=false:=by rw[<- Bool.not_eq_true];intro g;have:=fA _ _ _ a g;rw[iM]at this;cases this
    simp[this]
   .subst a;simp[iM]
   .have:Thk.kV c b=false:=by rw[<- Bool.not_eq_true];intro g;have:=fA _ _ _ a g;rw[iM]at this;cases this
    simp[this]
 obtain⟨e,f⟩:=zZ m;rw[DF k e (λx=>by rw[l,f,(List.mergeSort_perm L' _).mem_iff,<- j];simp)]
def key(x:dV):Thk.Bs×Int×Thk.Bs×Int:=(toL x.p,x.a,toL x.v,x.m)
def vX(e:Ev):Thk.Bs×Int×Thk.Bs×Int:=(toL e.p,(e.a.toNat:Int),toL (au e.a e.v),e.n)
def og(es:List Ev)(al:List Nat):List Ev:=al.filterMap (es[·]?)
theorem NY{l m:List Int}(h:l.Perm m):l.sum=m.sum:=by
 induction h with
 | nil=>rfl
 | cons x _ c=>simp[c]
 | swap x y l=>simp only[List.sum_cons];omega
 | trans _ _ a b=>exact a.trans b
theorem nodup_le:∀{l m:List Nat},l.Nodup->(∀x∈l,x∈m)->l.length<=m.length
 | [],_,_,_=>Nat.zero_le _
 | x::l,m,hn,h=>by
  obtain⟨m1,m2,rfl⟩:=List.append_of_mem (h x Ω);rw[List.nodup_cons]at hn;have:=nodup_le (m:=m1++m2) hn.2 (λy b=>by
   have a:=h y (by simp[b]);have c:y≠x:=λe=>hn.1 (e▸b);simp only[θ,List.mem_cons]at a⊢;rcases a with a|a|a
   .exact τ a
   .exact absurd a c
   .exact υ a)
  simp only[ρ,δ]at this⊢;omega
section
variable{es:List Ev}{D:List Nat}{n:Nat}{known:List Bool}{K:Nat->Nat}{C:Nat->Option Thk.Ch}
theorem vY{D:List Nat}{i:Nat}(a:i<D.length):D[i]?=some (D.getD i 0):=by simp[a]
theorem XO(f:EvD es D n){i j:Nat}(b:i<D.length)(c:j<D.length)(h:D.getD i 0=D.getD j 0):i=j:=by
 have d:D[i]=D[j]:=by rw[ξ,ξ,σ b,σ c]at h;exact h
 have e:=List.pairwise_iff_getElem.1 f.nd;rcases Nat.lt_trichotomy i j with a|a|a
 .exact absurd d (e i j b c a)
 .exact a
 .exact absurd d.symm (e j i c b a)
theorem vZ(d:EvD es D n){l:List Nat}(j:l.Nodup)(a:∀i∈l,i<D.length):(l.map λi=>D.getD i 0).Nodup:=by unfold List.Nodup;rw[List.pairwise_map];refine List.Pairwise.imp_of_mem ?_ j;intro b c f h g e;exact g (XO d (a b f) (a c h) e)
theorem Kn.perm(k:Kn es D known K C)(p:EvD es D n){xs:List dV}(o:gY (itOf C) xs):(xs.map key).Perm ((og es (aliveTo es known es.length)).map vX):=by
 obtain⟨⟨B,A⟩,u⟩:=o;have f:∀i,i∈aliveTo es known es.length↔i<D.length/\alive es known i=true:=λi=>by unfold aliveTo;rw[List.mem_filter,List.mem_range,p.len]
 have s:(xs.map dV.n).Perm ((aliveTo es known es.length).map λi=>D.getD i 0):=by
  refine(List.perm_ext_iff_of_nodup B ?_).2 λh=>?_
  .exact vZ p (List.Pairwise.filter _ List.nodup_range) (λi b=>((f i).1 b).1)
  .rw[A,itOf_none,ι];constructor
   .intro g;obtain⟨i,e,a,d,_⟩:=k.sup g;have b:i<D.length:=by
     rcases Nat.lt_or_ge i D.length with l|l
     .exact l
     .rw[List.getElem?_eq_none l]at a;cases a
    exact⟨i,(f i).2 ⟨b,d⟩,by rw[vY b]at a;exact Option.some.inj a⟩
   .rintro⟨i,b,rfl⟩;obtain⟨a,d⟩:=(f i).1 b;rw[k.c1 i _ (vY a),ώ d];obtain⟨⟨N,j,_⟩,_⟩:=(alive_iff es known i).1 d;rw[j];simp
 have w:∀x∈xs,key x=(match C x.n with|some c=>(c.path,(c.act.toNat:Int),toL (au c.act ⟨c.val.toArray⟩),c.n)|none=>([],0,[],0)):=λx o=>by have t:=u x o;obtain⟨c,g,m⟩:=itOf_v t;rw[g];unfold chV at m;simp only[Value.agg.injEq,Array.mk.injEq,List.cons.injEq,Value.string.injEq,Value.int.injEq,true_and,and_true]at m;obtain⟨G,H,L,M⟩:=m;unfold key;rw[G,H,L,M];rfl
 have y:xs.map key=(xs.map dV.n).map λh=>(match C h with|some c=>(c.path,(c.act.toNat:Int),toL (au c.act ⟨c.val.toArray⟩),c.n)|none=>([],0,[],0)):=by rw[List.map_map];exact List.map_congr_left w
 have E:(og es (aliveTo es known es.length)).map vX=((aliveTo es known es.length).map λi=>D.getD i 0).map λh=>(match C h with|some c=>(c.path,(c.act.toNat:Int),toL (au c.act ⟨c.val.toArray⟩),c.n)|none=>([],0,[],0)):=by
  unfold og;generalize aliveTo es known es.length=al at f;have q:∀i∈al,i<D.length/\alive es known i=true:=λi b=>(f i).1 b;clear f s;induction al with
  | nil=>rfl
  | cons i r ih =>obtain⟨a,d⟩:=q i Ω;obtain⟨⟨N,j,_⟩,_⟩:=(alive_iff es known i).1 d;have g:=k.c1 i _ (vY a);rw[ώ d,j]at g;rw[List.filterMap_cons,j];simp only[List.map_cons];rw[ih (λF v=>q F (by simp[v])),g];simp only[Option.map_some,jL,vX,uH]
 rw[y,E];exact s.map _
theorem Kn.dle(h:Kn es D known K C)(g:EvD es D n)(x:Nat):K x<=es.length:=by
 have:((List.range (K x)).map λm=>mkD x (m+1)).length<=D.length:=by
  refine nodup_le ?_ (λl a=>?_)
  .unfold List.Nodup;rw[List.pairwise_map];refine List.Pairwise.imp_of_mem ?_ List.nodup_range;intro b c i j o e;rw[List.mem_range]at i j;have d:=(h.all x (b+1) V V).1;have f:=(h.all x (c+1) V V).1;have:=congrArg nth e;rw[aZ d,aZ f]at this;omega
  .rw[ι]at a;obtain⟨m,k,rfl⟩:=a;rw[List.mem_range]at k;exact(h.all x (m+1) V V).2
 rw[List.length_map,List.length_range,g.len]at this;exact this
theorem yD(K:Nat->Nat):∀n,((List.range n).flatMap λx=>(List.range (K x)).map λm=>mkD x (m+1)).length=sumTo K n
 | 0=>rfl
 | n+1=>by rw[List.range_succ,List.flatMap_append,ρ,yD K n];simp[sumTo]
theorem wo(K:Nat->Nat)(a:∀x,K x<=500):∀n,((List.range n).flatMap λx=>(List.range (K x)).map λm=>mkD x (m+1)).Nodup
 | 0=>Ω
 | n+1=>by
  rw[List.range_succ,List.flatMap_append,List.nodup_append];refine⟨wo K a n, ?_,λd b f c e=>?_⟩
  .simp only[List.flatMap_cons,List.flatMap_nil,List.append_nil];unfold List.Nodup;rw[List.pairwise_map];refine List.Pairwise.imp_of_mem ?_ List.nodup_range;intro d f b c g e;rw[List.mem_range]at b c;have:=a n;have:=congrArg nth e;rw[aZ V,aZ V]at this;omega
  .simp only[List.mem_flatMap,List.mem_range,ι,List.flatMap_cons,List.flatMap_nil,List.append_nil]at b c;obtain⟨x,j,m,h,rfl⟩:=b;obtain⟨m2,i,rfl⟩:=c;have:=a n;have:=a x;have:=congrArg who e;rw[bW V,bW V]at this;omega
theorem Kn.size(h:Kn es D known K C)(b:EvD es D n)(s:n<=6)(g:∀x,K x<=500):cnt known=sizeK K:=by
 unfold sizeK;rw[<- cnt_range known es.length h.len,<- yD];have p:(((List.range es.length).filter (λk=>known.getD k false)).map λi=>D.getD i 0).Perm ((List.range 6).flatMap λx=>(List.range (K x)).map λm=>mkD x (m+1)):=by
  refine(List.perm_ext_iff_of_nodup (vZ b (List.Pairwise.filter _ List.nodup_range) (λi a=>by rw[List.mem_filter,List.mem_range]at a;rw[b.len];exact a.1)) (wo K g 6)).2 λq=>?_;simp only[ι,List.mem_filter,List.mem_range,List.mem_flatMap];constructor
  .rintro⟨i,⟨a,o⟩,rfl⟩;have f:i<D.length:=by rw[b.len];exact a
   have c:=(h.vec i _ (vY f)).1 o;have d:=b.ok _ (List.mem_of_getElem? (vY f));exact⟨who (D.getD i 0),V,nth (D.getD i 0)-1,V,by rw[show nth (D.getD i 0)-1+1=nth (D.getD i 0)by omega,qX]⟩
  .rintro⟨x,t,m,r,rfl⟩;obtain⟨c,d⟩:=h.all x (m+1) V V;obtain⟨i,a,l⟩:=List.getElem_of_mem d;have e:D[i]?=some (mkD x (m+1)):=by rw[σ a,l]
   have j:D.getD i 0=mkD x (m+1):=by rw[ξ,e];(first|done|rfl)
   refine⟨i,⟨by rw[<- b.len];exact a,(h.vec i _ e).2 ?_⟩,j⟩;rw[bW c,aZ c];omega
 have:=p.length_eq;rw[List.length_map]at this;exact this
end
theorem JQ(es:List Ev)(a:List Nat)(path:Thk.Bs):tellR es a path=tK (Thk.kindOf path) ((og es a).foldl (kJ (Thk.kindOf path) path) ⟨[],0,false⟩):=by
 unfold tellR og;congr 1;generalize (⟨[],0,false⟩:RH)=st;induction a generalizing st with
 | nil=>rfl
 | cons i r ih =>rw[List.foldl_cons,ih,List.filterMap_cons];cases es[i]?<;>rfl
theorem NZ(k:UInt8)(path:Thk.Bs)(b:(k.toNat:Int)=109):∀(a:List Ev)(st:RH),(∀e∈a,toL e.p≠path)->(a.foldl (kJ k path) st).l=((a.filter λe=>(path++[47]).isPrefixOf (toL e.p)).map λe=>dX path (toL e.p)).foldl iF st.l
 | [],_,_=>rfl
 | e::r,st,h=>by
  have f:=h e Ω;have d:=nU (toL e.p) path;have c:(toL e.p==path)=false:=by simpa using f
  rw[List.foldl_cons,NZ k path b r _ (λy g=>h y (by simp[g])),List.filter_cons];unfold kJ;rw[d,c];cases hp:(path++[47]).isPrefixOf (toL e.p)
  .simp
  .simp[b,dX]
theorem N7(k:UInt8)(path:Thk.Bs)(b:(k.toNat:Int)≠109):∀(a:List Ev)(st:RH),a.foldl (kJ k path) st=⟨((a.filter λe=>toL e.p==path).map λe=>toL e.v).foldl iF st.l,st.sum+((a.filter λe=>toL e.p==path).map Ev.n).sum,st.some||a.any λe=>toL e.p==path⟩
 | [],st=>Ω
 | e::r,st=>by
  have c:((k.toNat:Int)==109)=false:=by simpa using b
  rw[List.foldl_cons,N7 k path b r,List.filter_cons];unfold kJ;rw[c];cases hp:(toL e.p==path)
  .simp[hp]
  .simp[hp,Int.add_assoc]
structure DJ(e:Ev):Prop where
 fit:Thk.fits (Thk.kindOf (toL e.p)) e.a=true
 p:e.p.size<=20
 v:e.v.size<=20
 n1:e.n<=1000000000
 n2:-1000000000<=e.n
theorem Aa(p:Thk.Bs)(xs:List dV):nZ ⟨p.toArray⟩ xs=xs.filter λx=>toL x.p==p:=by unfold nZ;congr 1;funext x;rw[toList_eq,toList_eq];rfl
theorem Qr(p:Thk.Bs)(xs:List dV):(nZ ⟨p.toArray⟩ xs).map key=(xs.map key).filter λy=>y.1==p:=by rw[Aa,List.filter_map];rfl
theorem Qs{xs:List dV}(path:Thk.Bs)(L:∀e∈es,DJ e)(D:(xs.map key).Perm ((og es (aliveTo es known es.length)).map vX)):kP path xs=tellR es (aliveTo es known es.length) path:=by
 have K:∀e∈og es (aliveTo es known es.length),eG e.a=true/\DJ e:=by intro e b;unfold og at b;obtain⟨R,C,v⟩:=List.mem_filterMap.1 b;unfold aliveTo at C;have l:=(List.mem_filter.1 C).2;unfold alive at l;rw[v]at l;simp only[γ]at l;exact⟨l.1.1,L e (List.mem_of_getElem? v)⟩
 rw[JQ];generalize og es (aliveTo es known es.length)=i at *;have q:∀e∈i,toL e.p=path->(Thk.kindOf path).toNat≠109/\((Thk.kindOf path).toNat≠102->(Thk.kindOf path).toNat≠99->au e.a e.v=e.v):=by
  intro e b r;obtain⟨d,G⟩:=K e b;have c:=G.fit;rw[r]at c;unfold Thk.fits at c;unfold eG at d;simp only[Bool.or_eq_true,beq_iff_eq]at d;unfold au;refine⟨λw=>?_,λp H=>?_⟩
  .rw[ύ V,ύ V,ύ V,ύ V]at c;simp only[beq_iff_eq]at c;omega
  .by_cases A:(Thk.kindOf path).toNat=115
   .rw[ώ A]at c;simp only[Bool.or_eq_true,beq_iff_eq]at c;rw[ώ V]
   .rw[ύ A,ύ p]at c;by_cases B:(Thk.kindOf path).toNat=114
    .rw[ώ B]at c;simp only[Bool.or_eq_true,beq_iff_eq]at c;rw[ώ V]
    .rw[ύ B,ύ H]at c;simp only[beq_iff_eq]at c;omega
 have j:∀y,y∈xs.map key↔y∈i.map vX:=λy=>D.mem_iff;unfold kP tK;by_cases s:(Thk.kindOf path).toNat=109
 .rw[ώ s,ύ V,ύ V,NZ _ path V i _ (λe b r=>(q e b r).1 s)];refine(G7 _ _ λQ=>?_).symm;simp only[ι,aT,List.mem_filter];constructor
  .rintro⟨e,⟨b,d⟩,rfl⟩;obtain⟨x,h,f⟩:=ι.1 ((j _).2 (ι.2 ⟨e,b,rfl⟩));have g:toL x.p=toL e.p:=congrArg (·.1) f;exact⟨⟨(dX path (toL x.p)).toArray⟩,⟨x,⟨h,by rw[g];exact d⟩,rfl⟩,by rw[g];rfl⟩
  .rintro⟨_,⟨x,⟨h,d⟩,rfl⟩,rfl⟩;obtain⟨e,b,f⟩:=ι.1 ((j _).1 (ι.2 ⟨x,h,rfl⟩));have g:toL e.p=toL x.p:=congrArg (·.1) f;exact⟨e,⟨b,by rw[g];exact d⟩,by rw[g];rfl⟩
 .have P:((Thk.kindOf path).toNat:Int)≠109:=V
  rw[ύ s,N7 _ path P i];by_cases m:(Thk.kindOf path).toNat=102
  .have t:((Thk.kindOf path).toNat:Int)=102:=V
   rw[ώ m,ώ t];have:(nZ ⟨path.toArray⟩ xs≠[])↔(false||i.any λe=>toL e.p==path)=true:=by
    rw[Bool.false_or,List.any_eq_true];constructor
    .intro w;obtain⟨x,h⟩:=List.exists_mem_of_ne_nil _ w;rw[Aa]at h;obtain⟨M,N⟩:=List.mem_filter.1 h;obtain⟨e,b,f⟩:=ι.1 ((j _).1 (ι.2 ⟨x,M,rfl⟩));have g:toL e.p=toL x.p:=congrArg (·.1) f;exact⟨e,b,by rw[g];exact N⟩
    .rintro⟨e,b,d⟩;obtain⟨x,h,f⟩:=ι.1 ((j _).2 (ι.2 ⟨e,b,rfl⟩));have g:toL x.p=toL e.p:=congrArg (·.1) f;refine List.ne_nil_of_mem (a:=x) ?_;rw[Aa];exact List.mem_filter.2 ⟨h,by rw[g];exact d⟩
   by_cases c:nZ ⟨path.toArray⟩ xs≠[]
   .rw[ώ c];exact(ώ (this.1 c)).symm
   .rw[ύ c];exact(ύ (λp=>c (this.2 p))).symm
  .have t:¬((Thk.kindOf path).toNat:Int)=102:=V
   rw[ύ m,ύ t];by_cases n:(Thk.kindOf path).toNat=99
   .have u:((Thk.kindOf path).toNat:Int)=99:=V
    rw[ώ n,ώ u,AB];congr 1;have E:sumOf (nZ ⟨path.toArray⟩ xs)=(((xs.map key).filter λy=>y.1==path).map λy=>y.2.2.2).sum:=by rw[<- Qr];unfold sumOf;rw[List.map_map];(first|done|rfl)
    have F:((i.filter λe=>toL e.p==path).map Ev.n).sum=(((i.map vX).filter λy=>y.1==path).map λy=>y.2.2.2).sum:=by rw[List.filter_map,List.map_map];(first|done|rfl)
    rw[E];show _=0+_;rw[F,Int.zero_add];exact NY ((D.filter _).map _)
   .have u:¬((Thk.kindOf path).toNat:Int)=99:=V
    rw[ύ n,ύ u];refine(G7 _ _ λQ=>?_).symm;simp only[ι,Aa,List.mem_filter];constructor
    .rintro⟨e,⟨b,d⟩,rfl⟩;obtain⟨x,h,f⟩:=ι.1 ((j _).2 (ι.2 ⟨e,b,rfl⟩));have g:toL x.p=toL e.p:=congrArg (·.1) f;have k:toL x.v=toL (au e.a e.v):=congrArg (·.2.2.1) f;rw[(q e b (by simpa using d)).2 m n]at k;exact⟨x.v,⟨x,⟨h,by rw[g];exact d⟩,rfl⟩,k⟩
    .rintro⟨_,⟨x,⟨h,d⟩,rfl⟩,rfl⟩;have o:(toL x.p==path)=true:=d;obtain⟨e,b,f⟩:=ι.1 ((j _).1 (ι.2 ⟨x,h,rfl⟩));have g:toL e.p=toL x.p:=congrArg (·.1) f;have k:toL (au e.a e.v)=toL x.v:=congrArg (·.2.2.1) f;rw[<- g]at o;rw[(q e b (by simpa using o)).2 m n]at k;exact⟨e,⟨b,o⟩,k⟩
theorem txt_read{l:Thk.Bs}{c:Thk.Ch}(h:Thk.read l=.inr c)(g:eG c.act=true):txtC c=l/\l.length=c.path.length+1+c.val.length:=by
 unfold Thk.read at h;split at h
 .cases h
 .rename_i h0;have t:l.findIdx Thk.bI<=l.length:=List.findIdx_le_length;generalize l.findIdx Thk.bI=k at *;have i:k<l.length:=V
  unfold Thk.eH at h;split at h
  .cases h
  .split at h
   .cases h
   .have e:=lT h;have j:l.take k++[l.getD k 0]++l.drop (k+1)=l:=by
     have p:l.drop k=l.getD k 0::l.drop (k+1):=by rw[List.drop_eq_getElem_cons i];simp[i]
     rw[List.append_assoc,List.singleton_append,<- p,List.take_append_drop]
    have n:c.path=l.take k:=by rw[e]
    have o:c.act=l.getD k 0:=by rw[e]
    have d:c.val=l.drop (k+1):=by rw[e]
    refine⟨?_, ?_⟩
    .rw[<- o]at h;have b:c.path++[c.act]++c.val=l:=by rw[n,o,d];exact j
     unfold txtC uS;have r:toL ⟨c.path.toArray⟩=c.path:=rfl;rw[r];unfold eG at g;simp only[Bool.or_eq_true,beq_iff_eq]at g;unfold Thk.operand at h;by_cases f:c.act.toNat=43\/c.act.toNat=45\/c.act.toNat=61
     .unfold au;rw[ώ f,ύ V,List.append_nil];exact b
     .rw[ύ f]at h;unfold au;rw[ύ f];have s:toL ByteArray.empty=[]:=rfl;rw[s,List.append_nil];by_cases a:c.act.toNat=62
      .rw[ώ a];rw[ώ a]at h;split at h
       .rename_i m hm;have q:c.n=m:=(congrArg Thk.Ch.n (Sum.inr.inj h)).symm;rw[q,(Thk.qW _ _ hm).2.1,<- d];exact b
       .cases h
      .rw[ύ a,List.append_nil];rw[ύ a]at h;split at h
       .rename_i hv;rw[<- d]at hv;rw[hv,List.append_nil]at b;exact b
       .cases h
    .rw[n,d];have:=congrArg List.length j;simp only[ρ,List.length_singleton]at this;exact this.symm
section
variable{es:List Ev}{D:List Nat}{n:Nat}{known:List Bool}{K:Nat->Nat}{C:Nat->Option Thk.Ch}
theorem Kn.ch(h:Kn es D known K C)(l:∀e∈es,∃s,Thk.read s=.inr (jL e)){k:Nat}{c:Thk.Ch}(a:C k=some c):eG c.act=true/\∃s,Thk.read s=.inr c:=by
 obtain⟨m,e,_,i,f,b⟩:=h.sup (d:=k) (by rw[a];simp);rw[a]at b;cases b
 obtain⟨⟨y,g,j⟩,_⟩:=(alive_iff es known m).1 i;rw[f]at g;cases g
 exact⟨j,l e (List.mem_of_getElem? f)⟩
theorem Kn.chs(h:Kn es D known K C)(g:∀e∈es,∃s,Thk.read s=.inr (jL e)):∀k c,C k=some c->(c.act=43\/c.act=94\/c.act=61\/c.act=62)/\(-9223372036854775808<=c.n/\c.n<=9223372036854775807)/\c.path.length<=1048576/\(au c.act ⟨c.val.toArray⟩).size<=1048576/\(txtC c).length<=1000:=by
 intro k c f;obtain⟨b,s,d⟩:=h.ch g f;obtain⟨l,m,n,o,_⟩:=Thk.read_ok _ _ d;obtain⟨t1,t2⟩:=txt_read d b;have i:=jX c.act ⟨c.val.toArray⟩;have j:(⟨c.val.toArray⟩:ByteArray).size=c.val.length:=by simp[ByteArray.size]
 refine⟨?_,⟨V,V⟩,V,V,by rw[t1];omega⟩;unfold eG at b;simp only[Bool.or_eq_true,beq_iff_eq]at b;rcases b with((a|a)|a)|a
 .exact τ (UInt8.toNat_inj.1 a)
 .exact υ (τ (UInt8.toNat_inj.1 a))
 .exact υ (υ (τ (UInt8.toNat_inj.1 a)))
 .exact υ (υ (υ (UInt8.toNat_inj.1 a)))
theorem Kn.mem(h:Kn es D known K C){d:Nat}(a:1<=nth d)(b:nth d<=K (who d)):d∈D:=by have:=(h.all (who d) (nth d) a b).2;rw[qX]at this;exact this
theorem Kn.xs(h:Kn es D known K C)(f:EvD es D n)(i:es.length<=500){xs:List dV}(a:gY (itOf C) xs):xs.length<=500:=by have:=nodup_le a.1.1 (m:=D) (λd g=>by have b:=itOf_none.1 ((a.1.2 d).1 g);obtain⟨j,e,c,_⟩:=h.sup b;exact List.mem_of_getElem? c);rw[f.len,List.length_map]at this;omega
theorem Kn.ab8(h:Kn es D known K C)(f:EvD es D n)(a:es.length<=500)(l:∀e∈es,DJ e):oI (gY (itOf C)):=by
 have k:∀e∈og es (aliveTo es known es.length),e∈es:=λe a=>by obtain⟨q,_,g⟩:=List.mem_filterMap.1 a;exact List.mem_of_getElem? g
 constructor
 .intro o d;have:=h.xs f a d;omega
 .intro o d x m;obtain⟨e,a,c⟩:=ι.1 ((h.perm f d).mem_iff.1 (ι.2 ⟨x,m,rfl⟩));have b:=l e (k e a);unfold vX key at c;simp only[Prod.mk.injEq]at c;obtain⟨i,_,j,p⟩:=c;have r:x.p.size=e.p.size:=by rw[<- toL_length,<- toL_length,i]
  have s:x.v.size=(au e.a e.v).size:=by rw[<- toL_length,<- toL_length,j]
  have t:=jX e.a e.v;have:=b.p;have:=b.v;have:=b.n1;have:=b.n2;exact⟨V,V,V,V⟩
