import Derived.Test.YtfmmllpjgkgeaaaGreatDoorPartM34
set_option linter.unusedVariables false
set_option linter.unusedSimpArgs false
set_option maxHeartbeats 16000000
set_option maxRecDepth 100000
namespace Go.Proofs.YtfmmllpjgkgeaaaGreatDoor
structure qX(V:Type) where
 S:Nat->Prop
 C:Nat->Option V
variable{V:Type}
def qX.gone(a:qX V)(d:Nat):Prop:=a.S d/\a.C d=none
structure qX.le(a b:qX V):Prop where
 s:∀d,a.S d->b.S d
 g:∀d,a.gone d->b.gone d
theorem qX.le.trans{a b c:qX V}(h:a.le b)(k:b.le c):a.le c:=⟨λd hd=>k.s d (h.s d hd),λd hd=>k.g d (h.g d hd)⟩
theorem qX.le.refl(a:qX V):a.le a:=⟨λ_ h=>h,λ_ h=>h⟩
structure Brings(D i j:qX V):Prop where
 a:∀d,D.S d->i.S d
 b:∀d,i.S d->D.S d\/j.S d
 c:∀d c,D.C d=some c->i.C d=some c\/j.gone d
 d:∀d,D.gone d->i.gone d
 e:∀d,i.gone d->D.gone d\/j.gone d
theorem Brings.whole(i j:qX V):Brings i i j:=⟨λ_ h=>h,λ_ h=>Or.inl h,λ_ _ h=>Or.inl h,λ_ h=>h,λ_ h=>Or.inl h⟩
theorem Brings.later{D i j j':qX V}(h:Brings D i j)(hj:j.le j'):Brings D i j' :=
 ⟨h.a,λd hd=>(h.b d hd).imp id (hj.s d),λd c hc=>(h.c d c hc).imp id (hj.g d),h.d,λd hd=>(h.e d hd).imp id (hj.g d)⟩
def qX.join(a b:qX V)(r:qX V):Prop:=(∀d,r.S d↔a.S d\/b.S d)/\(∀d,r.gone d↔a.gone d\/b.gone d)/\∀d c,r.C d=some c->a.C d=some c\/b.C d=some c
theorem Brings.join{D i j r:qX V}(h:Brings D i j)(hr:qX.join D j r):qX.join i j r:=by
 obtain⟨h1,h2,h3⟩:=hr;refine⟨λd=>?_,λd=>?_,λd c hc=>?_⟩
 ·rw[h1];constructor
  ·rintro(hd|hd)
   ·exact Or.inl (h.a d hd)
   ·exact Or.inr hd
  ·rintro(hd|hd)
   ·exact h.b d hd
   ·exact Or.inr hd
 ·rw[h2];constructor
  ·rintro(hd|hd)
   ·exact Or.inl (h.d d hd)
   ·exact Or.inr hd
  ·rintro(hd|hd)
   ·exact h.e d hd
   ·exact Or.inr hd
 ·rcases h3 d c hc with h4|h4
  ·rcases h.c d c h4 with h5|h5
   ·exact Or.inl h5
   ·have:r.gone d:=(h2 d).2 (Or.inr h5);rw[this.2]at hc;cases hc
  ·exact Or.inr h4
end Go.Proofs.YtfmmllpjgkgeaaaGreatDoor
namespace Go.Proofs.YtfmmllpjgkgeaaaGreatDoor
open Go.RowKit
variable{e:Ev}{known:List Bool}{es:List Ev}{k:Nat}
def mY(e:Ev):Thk.Ch:=⟨ah e.p,e.a,ah e.v,e.n⟩
theorem Oo{d:Nat}(hd:d<es.length)(hk:k<es.length):rH (es++[e]) known k d=rH es known k d:=by unfold rH;rw[List.getElem?_append_left hd,List.getElem?_append_left hk]
theorem Cc(hk:k<es.length):∀d,d<=es.length->fH (es++[e]) known k d=fH es known k d
 | 0,_=>rfl
 | d+1,h=>by unfold fH;rw[Cc hk d (by omega),Oo (by omega) hk]
theorem Oq(hl:known.length<=es.length)(hk:k<es.length):alive (es++[e]) known k=alive es known k:=by
 unfold alive;rw[List.getElem?_append_left hk,List.length_append];have h1:fH (es++[e]) known k (es.length+1)=fH es known k es.length:=by
  rw[fH,Cc hk _ (Nat.le_refl _)];have:rH (es++[e]) known k es.length=false:=by unfold rH;rw[iQ hl];split<;>simp
  rw[this];simp
 rw[show [e].length=1 from rfl,h1]
theorem Ot(dp:Thk.Bs)(da:UInt8)(dv:Thk.Bs)(ep:Thk.Bs)(ea:UInt8)(ev:Thk.Bs):ny dp da (ah (aC da ⟨dv.toArray⟩)) ep ea (ah (aC ea ⟨ev.toArray⟩))=ny dp da dv ep ea ev:=by
 have hk:∀(a:UInt8)(v:Thk.Bs),a.toNat=43\/a.toNat=45->ah (aC a ⟨v.toArray⟩)=v:=λa v h=>by unfold aC;rw[if_pos (by omega)];(first|done|rfl)
 unfold ny;split
 ·rfl
 ·split
  ·rfl
  ·split
   ·rename_i h43;have e1:ah (aC ea ⟨ev.toArray⟩)=ev:=hk ea ev (Or.inl (by omega));rw[e1];by_cases h2:da.toNat=43\/da.toNat=45
    ·rw[hk da dv h2]
    ·have h3:((da.toNat:Int)==43||(da.toNat:Int)==45)=false:=by simp;omega
     rw[h3];(first|done|rfl)
   ·rfl
theorem Ce(es:List Ev)(known:List Bool)(k:Nat):∀n,fH es known k n=true↔∃d,k<d/\d<n/\rH es known k d=true
 | 0=>by simp[fH]
 | n+1=>by
  rw[fH,Bool.or_eq_true,Ce es known k n,Bool.and_eq_true,decide_eq_true_eq];constructor
  ·rintro(⟨d,h1,h2,h3⟩|⟨h1,h2⟩)
   ·exact⟨d,h1,by omega,h3⟩
   ·exact⟨n,h1,by omega,h2⟩
  ·rintro⟨d,h1,h2,h3⟩;by_cases e:d=n
   ·subst e;exact Or.inr ⟨h1,h3⟩
   ·exact Or.inl ⟨d,h1,by omega,h3⟩
def xB(es:List Ev)(k d:Nat):Bool :=
 match es[d]?,es[k]? with
 | some x,some y=>x.xC.getD k false&&ny (ah x.p) x.a (ah x.v) (ah y.p) y.a (ah y.v)
 | _,_=>false
theorem zN(es:List Ev)(known:List Bool)(k d:Nat):rH es known k d=(known.getD d false&&xB es k d):=by
 unfold rH xB;cases es[d]? with
 | none=>simp
 | some x =>
  cases es[k]? with
  | none=>simp
  | some y=>simp only[Bool.and_assoc]
theorem bT(es:List Ev)(known:List Bool)(k:Nat):alive es known k=true↔(∃y,es[k]?=some y/\ig y.a=true)/\known.getD k false=true/\∀d,k<d->d<es.length->known.getD d false=true->xB es k d=false:=by
 unfold alive;cases he:es[k]? with
 | none=>simp
 | some y =>
  simp only[Bool.and_eq_true,Bool.not_eq_true',Option.some.injEq,exists_eq_left'];rw[and_assoc,<- Bool.not_eq_true (fH es known k es.length),Ce];refine and_congr_right λ_=>and_congr_right λ_=>⟨λh d h1 h2 h3=>?_,λh=>?_⟩
  ·cases hc:xB es k d with
   | false=>rfl
   | true=>exact absurd ⟨d,h1,h2,by rw[zN,h3,hc];rfl⟩ h
  ·rintro⟨d,h1,h2,h3⟩;rw[zN,Bool.and_eq_true]at h3;rw[h d h1 h2 h3.1]at h3;cases h3.2
theorem Rz{d:Nat}(h:xB es k d=true):∃x,es[d]?=some x/\x.xC.getD k false=true:=by
 unfold xB at h;split at h
 ·rename_i x y hx hy;rw[Bool.and_eq_true]at h;exact⟨x,hx,h.1⟩
 ·cases h
structure zO(es:List Ev)(D:List Nat)(n:Nat):Prop where
 len:D.length=es.length
 nd:D.Nodup
 ok:∀d∈D,who d<n/\1<=nth d/\nth d<=500
structure Kn(es:List Ev)(D:List Nat)(known:List Bool)(K:Nat->Nat)(C:Nat->Option Thk.Ch):Prop where
 len:known.length<=es.length
 vec:∀i d,D[i]?=some d->(known.getD i false=true↔nth d<=K (who d))
 all:∀x m,1<=m->m<=K x->m<512/\dV x m∈D
 cl:∀d e i,es[d]?=some e->known.getD d false=true->e.xC.getD i false=true->known.getD i false=true
 c1:∀i d,D[i]?=some d->C d=if alive es known i=true then(es[i]?).map mY else none
 c2:∀d,d ∉ D->C d=none
section
variable{es:List Ev}{D:List Nat}{n:Nat}{known:List Bool}{K:Nat->Nat}{C:Nat->Option Thk.Ch}
theorem Kn.nil:Kn [] [] [] (λ_=>0) (λ_=>none):=⟨Nat.le_refl _,λi d h=>by simp at h,λx m h1 h2=>by omega,λd e i h=>by simp at h,λi d h=>by simp at h,λd _=>rfl⟩
theorem Kn.ab8(h:Kn es D known K C){d:Nat}(hd:d ∉ D)(h1:1<=nth d):¬nth d<=K (who d):=λhle=>by have:=(h.all (who d) (nth d) h1 hle).2;rw[wo]at this;exact hd this
theorem Kn.sup(h:Kn es D known K C){d:Nat}(hc:C d≠none):∃i e,D[i]?=some d/\alive es known i=true/\es[i]?=some e/\C d=some (mY e):=by
 by_cases hd:d∈D
 ·obtain⟨i,hi,rfl⟩:=List.getElem_of_mem hd;have hi':D[i]?=some D[i]:=List.getElem?_eq_getElem hi;have:=h.c1 i _ hi';by_cases ha:alive es known i=true
  ·rw[if_pos ha]at this;obtain⟨⟨y,hy,_⟩,_⟩:=(bT es known i).1 ha;rw[hy]at this;exact⟨i,y,hi',ha,hy,this⟩
  ·rw[if_neg ha]at this;exact absurd this hc
 ·exact absurd (h.c2 d hd) hc
theorem Kn.other(h:Kn es D known K C)(hE:zO es D n)(e:Ev)(d:Nat)(hd:d ∉ D)(h1:1<=nth d):Kn (es++[e]) (D++[d]) known K C:=by
 have hl:=h.len;have hk0:known.getD es.length false=false:=iQ hl;refine⟨by simp;omega,λi x hx=>?_,λx m h2 h3=>⟨(h.all x m h2 h3).1,List.mem_append.2 (Or.inl (h.all x m h2 h3).2)⟩,λx y i hx hk hs=>?_,λi x hx=>?_,λx hx=>h.c2 x (λhm=>hx (List.mem_append.2 (Or.inl hm)))⟩
 ·by_cases hi:i<D.length
  ·rw[List.getElem?_append_left hi]at hx;exact h.vec i x hx
  ·by_cases e2:i=D.length
   ·subst e2;simp at hx;subst hx;rw[hE.len,hk0];exact⟨λh5=>(by cases h5),λh3=>absurd h3 (h.ab8 hd h1)⟩
   ·rw[List.getElem?_eq_none (by simp;omega)]at hx;cases hx
 ·by_cases hi:x<es.length
  ·rw[List.getElem?_append_left hi]at hx;exact h.cl x y i hx hk hs
  ·rw[iQ (by omega)]at hk;cases hk
 ·by_cases hi:i<D.length
  ·rw[List.getElem?_append_left hi]at hx;have hie:i<es.length:=by rw[<- hE.len];exact hi
   rw[Oq hl hie,List.getElem?_append_left hie];exact h.c1 i x hx
  ·by_cases e2:i=D.length
   ·subst e2;simp at hx;subst hx;have ha:¬alive (es++[e]) known D.length=true:=λha=>by have:=((bT _ _ _).1 ha).2.1;rw[hE.len,hk0]at this;cases this
    rw[if_neg ha];exact h.c2 _ hd
   ·rw[List.getElem?_eq_none (by simp;omega)]at hx;cases hx
theorem Kn.mine(h:Kn es D known K C)(hE:zO es D n)(e:Ev)(c:Thk.Ch)(hc:mY e=c)(hs:e.xC=known)(a:Nat)(hK:K a+1<=500)(hd:dV a (K a+1) ∉ D):Kn (es++[e]) (D++[dV a (K a+1)]) (dN known es.length) (inc K a) (gK C c (dV a (K a+1))):=by
 have hl:=h.len;have hg:=vY known es.length hl;have hnl:known.getD es.length false=false:=iQ hl;obtain⟨d,hdd⟩:∃d,d=dV a (K a+1):=⟨_,rfl⟩;have hw:who d=a:=by rw[hdd];exact eF (by omega)
 have hn:nth d=K a+1:=by rw[hdd];exact dw (by omega)
 rw[<- hdd]at hd⊢;have hel:(es++[e])[es.length]?=some e:=by simp
 have hlt:∀i x,(D++[d])[i]?=some x->(i<D.length/\D[i]?=some x)\/(i=D.length/\x=d):=λi x hx=>by
  by_cases hi:i<D.length
  ·rw[List.getElem?_append_left hi]at hx;exact Or.inl ⟨hi,hx⟩
  ·by_cases e2:i=D.length
   ·subst e2;simp at hx;exact Or.inr ⟨rfl,hx.symm⟩
   ·rw[List.getElem?_eq_none (by simp;omega)]at hx;cases hx
 refine⟨by rw[iT _ _ hl];simp,λi x hx=>?_,λx m h2 h3=>?_,λx y i hx hk hsw=>?_,λi x hx=>?_,λx hx=>?_⟩
 ·rcases hlt i x hx with⟨hi,hx⟩|⟨rfl,rfl⟩
  ·have:¬i=es.length:=by rw[<- hE.len];omega
   rw[hg,Bool.or_eq_true,h.vec i x hx];simp only[this,decide_false,Bool.false_eq_true,or_false];by_cases e3:who x=a
   ·rw[e3,dU];refine⟨λh=>by omega,λh4=>?_⟩;by_cases e4:nth x=K a+1
    ·exact absurd (List.mem_of_getElem? hx) (by rw[lQ (x:=x) (y:=d) (by rw[e3,hw]) (by rw[e4,hn])];exact hd)
    ·omega
   ·rw[iH e3]
  ·rw[hg,hw,dU,hn,hE.len];simp
 ·by_cases e3:x=a
  ·subst e3;rw[dU]at h3;by_cases e4:m=K x+1
   ·rw[e4,<- hdd];exact⟨by omega,by simp⟩
   ·obtain⟨q1,q2⟩:=h.all x m h2 (by omega);exact⟨q1,List.mem_append.2 (Or.inl q2)⟩
  ·rw[iH e3]at h3;obtain⟨q1,q2⟩:=h.all x m h2 h3;exact⟨q1,List.mem_append.2 (Or.inl q2)⟩
 ·rw[hg,Bool.or_eq_true]at hk⊢;by_cases hi:x<es.length
  ·rw[List.getElem?_append_left hi]at hx;rcases hk with hk|hk
   ·exact Or.inl (h.cl x y i hx hk hsw)
   ·rw[decide_eq_true_eq]at hk;omega
  ·by_cases e2:x=es.length
   ·subst e2;rw[hel]at hx;cases hx
    rw[hs]at hsw;exact Or.inl hsw
   ·rw[List.getElem?_eq_none (by simp;omega)]at hx;cases hx
 ·rcases hlt i x hx with⟨hi,hx⟩|⟨rfl,rfl⟩
  ·have hxd:¬x=d:=λe2=>hd (e2▸List.mem_of_getElem? hx);have hil:i<es.length:=by rw[<- hE.len];exact hi
   have Xz:es[i]?=some es[i]:=List.getElem?_eq_getElem hil;unfold gK;rw[if_neg hxd,h.c1 i x hx,List.getElem?_append_left hil,Xz];have hne:¬i=es.length:=by omega
   have hcv:xB (es++[e]) i es.length=(known.getD i false&&ny (ah e.p) e.a (ah e.v) (ah es[i].p) es[i].a (ah es[i].v)):=by unfold xB;rw[hel,List.getElem?_append_left hil,Xz];simp only[];rw[hs]
   have hco:∀j,j<es.length->xB (es++[e]) i j=xB es i j:=λj hj=>by unfold xB;rw[List.getElem?_append_left hj,List.getElem?_append_left hil]
   have hcc:uG c.path c.act (ah (aC c.act ⟨c.val.toArray⟩)) (mY es[i])=ny (ah e.p) e.a (ah e.v) (ah es[i].p) es[i].a (ah es[i].v):=by subst hc;exact Ot _ _ _ _ _ _
   have ha:alive (es++[e]) (dN known es.length) i=true↔alive es known i=true/\ny (ah e.p) e.a (ah e.v) (ah es[i].p) es[i].a (ah es[i].v)=false:=by
    rw[bT,bT,List.getElem?_append_left hil,hg];simp only[hne,decide_false,Bool.or_false,List.length_append,List.length_singleton];constructor
    ·rintro⟨h1,h2,h3⟩;refine⟨⟨h1,h2,λj hj hj2 hkj=>?_⟩, ?_⟩
     ·rw[<- hco j hj2];exact h3 j hj (by omega) (by rw[hg,hkj];rfl)
     ·have:=h3 es.length hil (by omega) (by rw[hg];simp);rw[hcv,h2]at this;simpa using this
    ·rintro⟨⟨h1,h2,h3⟩,h4⟩;refine⟨h1,h2,λj hj hj2 hkj=>?_⟩;by_cases e5:j=es.length
     ·subst e5;rw[hcv,h4];simp
     ·rw[hco j (by omega)];rw[hg]at hkj;simp only[e5,decide_false,Bool.or_false]at hkj;exact h3 j hj (by omega) hkj
   by_cases hal:alive es known i=true
   ·rw[if_pos hal];simp only[Option.map_some,hcc];cases hcb:ny (ah e.p) e.a (ah e.v) (ah es[i].p) es[i].a (ah es[i].v) with
    | true=>rw[if_pos rfl,if_neg (λh5=>by rw[(ha.1 h5).2]at hcb;cases hcb)]
    | false=>rw[if_neg (by simp),if_pos (ha.2 ⟨hal,hcb⟩)]
   ·rw[if_neg hal,if_neg (λh5=>hal (ha.1 h5).1)]
  ·unfold gK;have ha:alive (es++[e]) (dN known es.length) D.length=true↔ig e.a=true:=by
    rw[bT,hE.len,hel,hg];simp only[List.length_append,List.length_singleton];constructor
    ·rintro⟨⟨y,hy,h1⟩,_⟩;cases hy;exact h1
    ·intro h1;exact⟨⟨e,rfl,h1⟩,by simp,λj hj hj2 _=>by omega⟩
   have ai5:(es++[e])[D.length]?=some e:=by rw[hE.len];exact hel
   rw[if_pos rfl,ai5];subst hc;by_cases h5:ig e.a=true
   ·rw[if_pos (ha.2 h5)];exact if_pos h5
   ·rw[if_neg (λh6=>h5 (ha.1 h6))];exact if_neg h5
 ·unfold gK;rw[List.mem_append,List.mem_singleton]at hx;rw[if_neg (λh5=>hx (Or.inr h5)),h.c2 x (λh5=>hx (Or.inl h5))]
theorem Kn.join{k2:List Bool}{K2:Nat->Nat}{C2:Nat->Option Thk.Ch}(h:Kn es D known K C)(h2:Kn es D k2 K2 C2):Kn es D (bY known k2) (jr K K2) (iO K C K2 C2):=by
 have one:∀(ka kb:List Bool)i,(∀d e i,es[d]?=some e->kb.getD d false=true->e.xC.getD i false=true->kb.getD i false=true)->ka.getD i false=true->kb.getD i false=false->∀kc:List Bool,(∀j,kc.getD j false=(ka.getD j false||kb.getD j false))->(alive es kc i=true↔alive es ka i=true):=by
  intro ka kb i hcl h1 h3 kc hkc;rw[bT,bT,hkc,h1,h3];simp only[Bool.or_false,true_and];refine and_congr_right λ_=>⟨λh4 j hj hj2 hkj=>h4 j hj hj2 (by rw[hkc,hkj];rfl),λh4 j hj hj2 hkj=>?_⟩;rw[hkc,Bool.or_eq_true]at hkj;rcases hkj with hkj|hkj
  ·exact h4 j hj hj2 hkj
  ·cases hc:xB es i j with
   | false=>rfl
   | true =>obtain⟨x,hx,hsx⟩:=Rz hc;rw[hcl j x i hx hkj hsx]at h3;cases h3
 refine⟨by rw[jJ];have:=h.len;have:=h2.len;omega,λi d hd=>?_,λx m h3 h4=>?_,λd e i he hk hs=>?_,λi d hd=>?_,λd hd=>?_⟩
 ·rw[dZ,Bool.or_eq_true,h.vec i d hd,h2.vec i d hd];unfold jr;omega
 ·unfold jr at h4;by_cases h5:m<=K x
  ·exact h.all x m h3 h5
  ·exact h2.all x m h3 (by omega)
 ·rw[dZ,Bool.or_eq_true]at hk⊢;rcases hk with hk|hk
  ·exact Or.inl (h.cl d e i he hk hs)
  ·exact Or.inr (h2.cl d e i he hk hs)
 ·have v1:=h.vec i d hd;have v2:=h2.vec i d hd;have e1:=h.c1 i d hd;have e2:=h2.c1 i d hd;have n1:∀(ka:List Bool),ka.getD i false=false->¬alive es ka i=true:=λka h3 h4=>by rw[((bT es ka i).1 h4).2.1]at h3;cases h3
  unfold iO;cases k1:known.getD i false with
  | true =>
   have q1:=v1.1 k1;cases RF:k2.getD i false with
   | true =>
    have q2:=v2.1 RF;have ha:alive es (bY known k2) i=true↔alive es known i=true/\alive es k2 i=true:=by
     rw[bT,bT,bT,dZ,k1,RF];simp only[Bool.or_self,true_and];constructor
     ·rintro⟨h3,h4⟩;exact⟨⟨h3,λj hj hj2 hkj=>h4 j hj hj2 (by rw[dZ,hkj];rfl)⟩,h3,λj hj hj2 hkj=>h4 j hj hj2 (by rw[dZ,hkj];simp)⟩
     ·rintro⟨⟨h3,h4⟩,_,h5⟩;refine⟨h3,λj hj hj2 hkj=>?_⟩;rw[dZ,Bool.or_eq_true]at hkj;rcases hkj with hkj|hkj
      ·exact h4 j hj hj2 hkj
      ·exact h5 j hj hj2 hkj
    by_cases a1:alive es known i=true
    ·by_cases a2:alive es k2 i=true
     ·rw[if_pos (ha.2 ⟨a1,a2⟩)];rw[if_pos a1]at e1;rw[if_pos a2]at e2;obtain⟨⟨y,hy,_⟩,_⟩:=(bT es known i).1 a1;rw[hy]at e1 e2⊢;rw[e1,e2,if_neg (by simp)];rfl
     ·rw[if_neg (λh3=>a2 (ha.1 h3).2)];rw[if_neg a2]at e2;rw[if_pos (Or.inr ⟨e2,q2⟩)]
    ·rw[if_neg (λh3=>a1 (ha.1 h3).1)];rw[if_neg a1]at e1;rw[if_pos (Or.inl ⟨e1,q1⟩)]
   | false =>
    have q2:¬nth d<=K2 (who d):=λh3=>by rw[v2.2 h3]at RF;cases RF
    have ha:=one known k2 i h2.cl k1 RF (bY known k2) (λj=>dZ _ _ j);rw[if_neg (n1 k2 RF)]at e2;rw[e2];by_cases a1:alive es known i=true
    ·rw[if_pos (ha.2 a1)];rw[if_pos a1]at e1;obtain⟨⟨y,hy,_⟩,_⟩:=(bT es known i).1 a1;rw[hy]at e1⊢;rw[e1,if_neg (by simp[q2])];rfl
    ·rw[if_neg (λh3=>a1 (ha.1 h3))];rw[if_neg a1]at e1;rw[if_pos (Or.inl ⟨e1,q1⟩)]
  | false =>
   have q1:¬nth d<=K (who d):=λh3=>by rw[v1.2 h3]at k1;cases k1
   rw[if_neg (n1 known k1)]at e1;rw[e1];cases RF:k2.getD i false with
   | true =>
    have q2:=v2.1 RF;have ha:=one k2 known i h.cl RF k1 (bY known k2) (λj=>by rw[dZ,Bool.or_comm]);by_cases a2:alive es k2 i=true
    ·rw[if_pos (ha.2 a2)];rw[if_pos a2]at e2;obtain⟨⟨y,hy,_⟩,_⟩:=(bT es k2 i).1 a2;rw[hy]at e2⊢;rw[e2,if_neg (by simp[q1])];rfl
    ·rw[if_neg (λh3=>a2 (ha.1 h3))];rw[if_neg a2]at e2;rw[if_pos (Or.inr ⟨e2,q2⟩)]
   | false =>rw[if_neg (n1 k2 RF)]at e2;rw[e2,if_neg (n1 (bY known k2) (by rw[dZ,k1,RF];rfl))];split<;>rfl
 ·unfold iO;rw[h.c2 d hd,h2.c2 d hd];split<;>rfl
theorem Kn.same{k2:List Bool}{K2:Nat->Nat}{C2:Nat->Option Thk.Ch}(h:Kn es D known K C)(h2:Kn es D k2 K2 C2):∀d c c',C d=some c->C2 d=some c'->c=c':=by
 intro d c c' h3 h4;have hd:d∈D:=Classical.byContradiction λh5=>by rw[h.c2 d h5]at h3;cases h3
 obtain⟨i,hi,rfl⟩:=List.getElem_of_mem hd;have hi':D[i]?=some D[i]:=List.getElem?_eq_getElem hi;have e1:=h.c1 i _ hi';have e2:=h2.c1 i _ hi';rw[h3]at e1;rw[h4]at e2;split at e1
 ·split at e2
  ·rw[<- e1]at e2;cases e2;rfl
  ·cases e2
 ·cases e1
end
theorem Lu:∀(a b:Thk.Bs),Thk.oQ a b=true↔a<b
 | [],[]=>by simp[Thk.oQ]
 | [],_::_=>by simp[Thk.oQ]
 | _::_,[]=>by simp[Thk.oQ]
 | a::l,b::m=>by rw[Thk.oQ,List.cons_lt_cons_iff,<- Lu l m];simp only[Bool.or_eq_true,Bool.and_eq_true,decide_eq_true_eq,beq_iff_eq,UInt8.lt_iff_toNat_lt]
theorem kU:∀a:Thk.Bs,Thk.oQ a a=false
 | []=>rfl
 | a::l=>by rw[Thk.oQ,kU l];simp
theorem iK:∀(a b c:Thk.Bs),Thk.oQ a b=true->Thk.oQ b c=true->Thk.oQ a c=true
 | [],[],_,h,_=>by simp[Thk.oQ]at h
 | [],_::_,[],_,h=>by simp[Thk.oQ]at h
 | [],_::_,_::_,_,_=>rfl
 | _::_,[],_,h,_=>by simp[Thk.oQ]at h
 | _::_,_::_,[],_,h=>by simp[Thk.oQ]at h
 | a::l,b::m,c::n,h1,h2=>by
  simp only[Thk.oQ,Bool.or_eq_true,Bool.and_eq_true,decide_eq_true_eq,beq_iff_eq]at h1 h2⊢;rcases h1 with h1|⟨rfl,h1⟩
  ·rcases h2 with h2|⟨rfl,h2⟩
   ·exact Or.inl (by omega)
   ·exact Or.inl h1
  ·rcases h2 with h2|⟨rfl,h2⟩
   ·exact Or.inl h2
   ·exact Or.inr ⟨rfl,iK l m n h1 h2⟩
theorem oq:∀(a b:Thk.Bs),Thk.oQ a b=true\/a=b\/Thk.oQ b a=true
 | [],[]=>Or.inr (Or.inl rfl)
 | [],_::_=>Or.inl rfl
 | _::_,[]=>Or.inr (Or.inr rfl)
 | a::l,b::m=>by
  simp only[Thk.oQ,Bool.or_eq_true,Bool.and_eq_true,decide_eq_true_eq,beq_iff_eq];by_cases h:a.toNat<b.toNat
  ·exact Or.inl (Or.inl h)
  ·by_cases h2:b.toNat<a.toNat
   ·exact Or.inr (Or.inr (Or.inl h2))
   ·have e:a=b:=UInt8.toNat_inj.1 (by omega);subst e;rcases oq l m with h3|h3|h3
    ·exact Or.inl (Or.inr ⟨rfl,h3⟩)
    ·exact Or.inr (Or.inl (by rw[h3]))
    ·exact Or.inr (Or.inr (Or.inr ⟨rfl,h3⟩))
theorem vU(a b:Thk.Bs):decide (a<=b) = !Thk.oQ b a:=by
 have h:=Lu b a;by_cases h1:b<a
 ·have:¬a<=b:=λh2=>h2 h1;rw[h.2 h1];simp[this]
 ·have h2:a<=b:=h1;have h3:Thk.oQ b a=false:=by rw[<- Bool.not_eq_true];exact λh4=>h1 (h.1 h4)
  rw[h3];simp[h2]
def oK(l:List Thk.Bs):Prop:=l.Pairwise λa b=>Thk.oQ a b=true
theorem oK.nodup{l:List Thk.Bs}(h:oK l):l.Nodup:=List.Pairwise.imp (λ{a b}h e=>by rw[e,kU]at h;cases h) h
theorem G5{l m:List Thk.Bs}(h1:oK l)(h2:oK m)(h:∀x,x∈l↔x∈m):l=m :=
 List.Perm.eq_of_pairwise (λa b _ _ h3 h4=>by have:=iK _ _ _ h3 h4;rw[kU]at this;cases this) h1 h2 ((List.perm_ext_iff_of_nodup h1.nodup h2.nodup).2 h)
theorem Em{zs:List Thk.Bs}(hs:zs.Pairwise λa b=>Thk.oQ b a=false):oK (Lib.compact zs)/\∀x,x∈Lib.compact zs↔x∈zs:=by
 have hget:∀j,j<zs.length->zs.toArray[j]! = zs.getD j []:=λj hj=>by simp[hj]
 have hle:∀i j,i<j->j<zs.length->Thk.oQ (zs.getD j []) (zs.getD i [])=false:=λi j hij hj=>by have:=(List.pairwise_iff_getElem.1 hs) i j (by omega) hj hij;rw[List.getD_eq_getElem?_getD,List.getD_eq_getElem?_getD,List.getElem?_eq_getElem hj,List.getElem?_eq_getElem (show i<zs.length by omega)];exact this
 constructor
 ·unfold oK Lib.compact Lib.compactUpTo;rw[List.pairwise_map];have hf:((List.range zs.length).filter (Lib.keeps zs.toArray)).Pairwise (· < ·):=List.Pairwise.filter _ List.pairwise_lt_range;refine List.Pairwise.imp_of_mem ?_ hf;intro i j hi hj hij;rw[List.mem_filter,List.mem_range]at hi hj;have hk:=hj.2;unfold Lib.keeps at hk;simp only[decide_eq_true_eq]at hk;have hne:zs.toArray[j]!≠zs.toArray[j-1]!:=by rcases hk with h|h;omega;exact h
  rw[hget j hj.1,hget (j-1) (by omega)]at hne;rw[hget i hi.1,hget j hj.1];have h1:Thk.oQ (zs.getD (j-1) []) (zs.getD j [])=true:=by
   rcases oq (zs.getD (j-1) []) (zs.getD j [])with h|h|h
   ·exact h
   ·exact absurd h.symm hne
   ·rw[hle (j-1) j (by omega) hj.1]at h;cases h
  by_cases e:i=j-1
  ·rw[e];exact h1
  ·rcases oq (zs.getD i []) (zs.getD (j-1) [])with h|h|h
   ·exact iK _ _ _ h h1
   ·rw[h];exact h1
   ·rw[hle i (j-1) (by omega) (by omega)]at h;cases h
 ·intro x;unfold Lib.compact Lib.compactUpTo;constructor
  ·intro hx;obtain⟨i,hi,rfl⟩:=List.mem_map.1 hx;rw[List.mem_filter,List.mem_range]at hi;rw[hget i hi.1,List.getD_eq_getElem?_getD,List.getElem?_eq_getElem hi.1];exact List.getElem_mem _
  ·intro hx;obtain⟨j,hj,rfl⟩:=List.getElem_of_mem hx;have key:∀j(hj:j<zs.length),zs[j]∈((List.range zs.length).filter (Lib.keeps zs.toArray)).map (zs.toArray[·]!):=by
    intro j;induction j with
    | zero=>intro hj;exact List.mem_map.2 ⟨0,List.mem_filter.2 ⟨List.mem_range.2 hj,by simp[Lib.keeps]⟩,by rw[hget 0 hj,List.getD_eq_getElem?_getD,List.getElem?_eq_getElem hj];rfl⟩
    | succ j ih =>
     intro hj;by_cases hk:Lib.keeps zs.toArray (j+1)=true
     ·exact List.mem_map.2 ⟨j+1,List.mem_filter.2 ⟨List.mem_range.2 hj,hk⟩,by rw[hget _ hj,List.getD_eq_getElem?_getD,List.getElem?_eq_getElem hj];rfl⟩
     ·have h3:zs.toArray[j+1]! = zs.toArray[j]!:=by unfold Lib.keeps at hk;simp only[decide_eq_true_eq,not_or,ne_eq,Decidable.not_not]at hk;exact hk.2
      rw[hget _ hj,hget j (by omega),List.getD_eq_getElem?_getD,List.getD_eq_getElem?_getD,List.getElem?_eq_getElem hj,List.getElem?_eq_getElem (show j<zs.length by omega)]at h3;have:=ih (by omega);rw[show zs[j+1]=zs[j]from h3];exact this
   exact key j hj
theorem LC(l:List Thk.Bs)(s x:Thk.Bs):x∈Thk.ins l s↔x=s\/x∈l:=by
 induction l with
 | nil=>simp[Thk.ins]
 | cons y r ih =>
  unfold Thk.ins;split
  ·rename_i h;subst h;simp
  ·split
   ·simp
   ·simp only[List.mem_cons,ih];constructor
    ·rintro(h|h|h)
     ·exact Or.inr (Or.inl h)
     ·exact Or.inl h
     ·exact Or.inr (Or.inr h)
    ·rintro(h|h|h)
     ·exact Or.inr (Or.inl h)
     ·exact Or.inl h
     ·exact Or.inr (Or.inr h)
theorem RG{l:List Thk.Bs}(h:oK l)(s:Thk.Bs):oK (Thk.ins l s):=by
 induction l with
 | nil=>exact List.pairwise_singleton _ _
 | cons y r ih =>
  have h1:=List.pairwise_cons.1 h;unfold Thk.ins;split
  ·exact h
  ·split
   ·rename_i h2 h3;exact List.pairwise_cons.2 ⟨λa ha=>by
     rcases List.mem_cons.1 ha with e|ha
     ·rw[e];exact h3
     ·exact iK _ _ _ h3 (h1.1 a ha),h⟩
   ·rename_i h2 h3;refine List.pairwise_cons.2 ⟨λa ha=>?_,ih h1.2⟩;rcases(LC r s a).1 ha with e|ha
    ·rw[e];rcases oq y s with h4|h4|h4
     ·exact h4
     ·exact absurd h4.symm h2
     ·exact absurd h4 h3
    ·exact h1.1 a ha
theorem zQ:∀(a b:Thk.Bs),Op.bytesLess a b=Thk.oQ a b
 | [],[]=>rfl
 | [],_::_=>rfl
 | _::_,[]=>rfl
 | a::l,b::m=>by rw[Op.bytesLess,Thk.oQ,zQ l m];simp[UInt8.lt_iff_toNat_lt]
theorem mF(s:Thk.Bs):∀(l o:List Thk.Bs),(∀x∈l,x≠s)->l.foldl (bG s) (o,true)=(o++l,true)
 | [],o,_=>by simp
 | x::r,o,h=>by
  have hx:x≠s:=h x (by simp);rw[List.foldl_cons];have e:bG s (o,true) x=(o++[x],true):=by unfold bG;simp[hx]
  rw[e,mF s r _ (λy hy=>h y (by simp[hy]))];simp
theorem Ci(s:Thk.Bs):∀(l o:List Thk.Bs),oK l->(if(l.foldl (bG s) (o,false)).2 then(l.foldl (bG s) (o,false)).1 else(l.foldl (bG s) (o,false)).1++[s])=o++Thk.ins l s
 | [],o,_=>by simp[Thk.ins]
 | x::r,o,h=>by
  have h1:=List.pairwise_cons.1 h;rw[List.foldl_cons];unfold Thk.ins;by_cases e:s=x
  ·subst e;have e2:bG s (o,false) s=(o++[s],true):=by unfold bG;simp
   rw[e2,mF s r _ (λy hy he=>by have:=h1.1 y hy;rw[he,kU]at this;cases this)];simp
  ·rw[if_neg e];cases hlt:Thk.oQ s x with
   | true =>
    have e2:bG s (o,false) x=(o++[s]++[x],true):=by unfold bG;rw[zQ,hlt];simp[Ne.symm e]
    rw[e2,mF s r _ (λy hy he=>by have:=iK _ _ _ hlt (h1.1 y hy);rw[he,kU]at this;cases this)];simp
   | false =>
    have e3:(s==x)=false:=by simpa using e
    have e2:bG s (o,false) x=(o++[x],false):=by unfold bG;rw[zQ,hlt,e3];simp[Ne.symm e]
    rw[e2,Ci s r _ h1.2];simp
theorem RH{l:List Thk.Bs}(h:oK l)(s:Thk.Bs):kH l s=Thk.ins l s:=by have:=Ci s l [] h;unfold kH;rw[this];simp
theorem Cj:∀(L l:List Thk.Bs),oK l->oK (L.foldl kH l)/\∀x,x∈L.foldl kH l↔x∈l\/x∈L
 | [],l,h=>⟨h,λx=>by simp⟩
 | s::L,l,h=>by
  rw[List.foldl_cons,RH h s];obtain⟨h1,h2⟩:=Cj L (Thk.ins l s) (RG h s);refine⟨h1,λx=>?_⟩;rw[h2,LC];simp only[List.mem_cons];constructor
  ·rintro((h|h)|h)
   ·exact Or.inr (Or.inl h)
   ·exact Or.inl h
   ·exact Or.inr (Or.inr h)
  ·rintro(h|h|h)
   ·exact Or.inl (Or.inr h)
   ·exact Or.inl (Or.inl h)
   ·exact Or.inr h
theorem wO(x:Thk.Bs)(r:List Thk.Bs):∀k,k<=r.length->Thk.jl (x::r) (k+1)=x++Lib.joinTail [44] (r.take k)
 | 0,_=>by simp[Thk.jl,Lib.joinTail]
 | k+1,h=>by
  have hk:k<r.length:=by omega
  rw[Thk.jl,if_neg (by omega),wO x r k (by omega),Lib.joinTail_take_succ [44] r k r[k] (List.getElem?_eq_getElem hk)];have:(x::r).getD (k+1) []=r[k]:=by simp[hk]
  rw[this];simp
theorem G6(l:List Thk.Bs):Thk.jl l l.length=Lib.join l [44]:=by
 cases l with
 | nil=>rfl
 | cons x r=>rw[List.length_cons,wO x r _ (Nat.le_refl _),List.take_length,Lib.join_cons]
theorem LG(L L':List Thk.Bs)(h:∀x,x∈L↔x∈L'):Thk.jl (L.foldl kH []) (L.foldl kH []).length=kJ L':=by
 rw[G6];unfold kJ;obtain⟨h1,h2⟩:=Cj L [] List.Pairwise.nil;have hs:(L'.mergeSort λx y=>decide (x<=y)).Pairwise λa b=>Thk.oQ b a=false:=by
  have:=List.pairwise_mergeSort (le:=λx y:Thk.Bs=>decide (x<=y)) (λa b c=>?_) (λa b=>?_) L'
  ·refine List.Pairwise.imp ?_ this;intro a b hab;rw[vU]at hab;simpa using hab
  ·rw[vU,vU,vU];intro h3 h4;simp only[Bool.not_eq_true']at h3 h4⊢;rcases oq a b with h5|h5|h5
   ·rcases oq b c with h6|h6|h6
    ·have:=iK _ _ _ h5 h6;rw[<- Bool.not_eq_true];intro h7;have:=iK _ _ _ this h7;rw[kU]at this;cases this
    ·subst h6;exact h3
    ·rw[h4]at h6;cases h6
   ·subst h5;exact h4
   ·rw[h3]at h5;cases h5
  ·rw[vU,vU];rcases oq a b with h5|h5|h5
   ·have:Thk.oQ b a=false:=by rw[<- Bool.not_eq_true];intro h7;have:=iK _ _ _ h5 h7;rw[kU]at this;cases this
    simp[this]
   ·subst h5;simp[kU]
   ·have:Thk.oQ a b=false:=by rw[<- Bool.not_eq_true];intro h7;have:=iK _ _ _ h5 h7;rw[kU]at this;cases this
    simp[this]
 obtain⟨h3,h4⟩:=Em hs;rw[G5 h1 h3 (λx=>by rw[h2,h4,(List.mergeSort_perm L' _).mem_iff,<- h];simp)]
def key(x:gX):Thk.Bs×Int×Thk.Bs×Int:=(ah x.p,x.a,ah x.v,x.m)
def zS(e:Ev):Thk.Bs×Int×Thk.Bs×Int:=(ah e.p,(e.a.toNat:Int),ah (aC e.a e.v),e.n)
def rX(es:List Ev)(al:List Nat):List Ev:=al.filterMap (es[·]?)
theorem RI{l m:List Int}(h:l.Perm m):l.sum=m.sum:=by
 induction h with
 | nil=>rfl
 | cons x _ ih=>simp[ih]
 | swap x y l=>simp only[List.sum_cons];omega
 | trans _ _ h1 h2=>exact h1.trans h2
theorem uJ:∀{l m:List Nat},l.Nodup->(∀x∈l,x∈m)->l.length<=m.length
 | [],_,_,_=>Nat.zero_le _
 | x::l,m,hn,h=>by
  obtain⟨m1,m2,rfl⟩:=List.append_of_mem (h x (by simp));rw[List.nodup_cons]at hn;have:=uJ (m:=m1++m2) hn.2 (λy hy=>by
   have h1:=h y (by simp[hy]);have h2:y≠x:=λe=>hn.1 (e▸hy);simp only[List.mem_append,List.mem_cons]at h1⊢;rcases h1 with h1|h1|h1
   ·exact Or.inl h1
   ·exact absurd h1 h2
   ·exact Or.inr h1)
  simp only[List.length_append,List.length_cons]at this⊢;omega
section
variable{es:List Ev}{D:List Nat}{n:Nat}{known:List Bool}{K:Nat->Nat}{C:Nat->Option Thk.Ch}
theorem zT{D:List Nat}{i:Nat}(hi:i<D.length):D[i]?=some (D.getD i 0):=by simp[hi]
theorem ab9(hE:zO es D n){i j:Nat}(hi:i<D.length)(hj:j<D.length)(h:D.getD i 0=D.getD j 0):i=j:=by
 have h1:D[i]=D[j]:=by rw[List.getD_eq_getElem?_getD,List.getD_eq_getElem?_getD,List.getElem?_eq_getElem hi,List.getElem?_eq_getElem hj]at h;exact h
 have hp:=List.pairwise_iff_getElem.1 hE.nd;rcases Nat.lt_trichotomy i j with h2|h2|h2
 ·exact absurd h1 (hp i j hi hj h2)
 ·exact h2
 ·exact absurd h1.symm (hp j i hj hi h2)
theorem zU(hE:zO es D n){l:List Nat}(hl:l.Nodup)(hb:∀i∈l,i<D.length):(l.map λi=>D.getD i 0).Nodup:=by unfold List.Nodup;rw[List.pairwise_map];refine List.Pairwise.imp_of_mem ?_ hl;intro a b ha hb' hab e;exact hab (ab9 hE (hb a ha) (hb b hb') e)
theorem Kn.perm(h:Kn es D known K C)(hE:zO es D n){xs:List gX}(hx:jU (aO C) xs):(xs.map key).Perm ((rX es (aX es known es.length)).map zS):=by
 obtain⟨⟨hnd,hmem⟩,hat⟩:=hx;have hal:∀i,i∈aX es known es.length↔i<D.length/\alive es known i=true:=λi=>by unfold aX;rw[List.mem_filter,List.mem_range,hE.len]
 have hp:(xs.map gX.n).Perm ((aX es known es.length).map λi=>D.getD i 0):=by
  refine(List.perm_ext_iff_of_nodup hnd ?_).2 λd=>?_
  ·exact zU hE (List.Pairwise.filter _ List.nodup_range) (λi hi=>((hal i).1 hi).1)
  ·rw[hmem,dW,List.mem_map];constructor
   ·intro hc;obtain⟨i,e,h1,h2,_⟩:=h.sup hc;have hi:i<D.length:=by
     rcases Nat.lt_or_ge i D.length with h5|h5
     ·exact h5
     ·rw[List.getElem?_eq_none h5]at h1;cases h1
    exact⟨i,(hal i).2 ⟨hi,h2⟩,by rw[zT hi]at h1;exact Option.some.inj h1⟩
   ·rintro⟨i,hi,rfl⟩;obtain⟨h1,h2⟩:=(hal i).1 hi;rw[h.c1 i _ (zT h1),if_pos h2];obtain⟨⟨y,hy,_⟩,_⟩:=(bT es known i).1 h2;rw[hy];simp
 have hk:∀x∈xs,key x=(match C x.n with|some c=>(c.path,(c.act.toNat:Int),ah (aC c.act ⟨c.val.toArray⟩),c.n)|none=>([],0,[],0)):=λx hx=>by have h3:=hat x hx;obtain⟨c,hc,hv⟩:=nZ h3;rw[hc];unfold qO at hv;simp only[Value.agg.injEq,Array.mk.injEq,List.cons.injEq,Value.string.injEq,Value.int.injEq,true_and,and_true]at hv;obtain⟨q1,q2,q3,q4⟩:=hv;unfold key;rw[q1,q2,q3,q4];rfl
 have hl:xs.map key=(xs.map gX.n).map λd=>(match C d with|some c=>(c.path,(c.act.toNat:Int),ah (aC c.act ⟨c.val.toArray⟩),c.n)|none=>([],0,[],0)):=by rw[List.map_map];exact List.map_congr_left hk
 have hr:(rX es (aX es known es.length)).map zS=((aX es known es.length).map λi=>D.getD i 0).map λd=>(match C d with|some c=>(c.path,(c.act.toNat:Int),ah (aC c.act ⟨c.val.toArray⟩),c.n)|none=>([],0,[],0)):=by
  unfold rX;generalize aX es known es.length=al at hal;have hal':∀i∈al,i<D.length/\alive es known i=true:=λi hi=>(hal i).1 hi;clear hal hp;induction al with
  | nil=>rfl
  | cons i r ih =>obtain⟨h1,h2⟩:=hal' i (by simp);obtain⟨⟨y,hy,_⟩,_⟩:=(bT es known i).1 h2;have hc:=h.c1 i _ (zT h1);rw[if_pos h2,hy]at hc;rw[List.filterMap_cons,hy];simp only[List.map_cons];rw[ih (λj hj=>hal' j (by simp[hj])),hc];simp only[Option.map_some,mY,zS,yN]
 rw[hl,hr];exact hp.map _
theorem Kn.dle(h:Kn es D known K C)(hE:zO es D n)(x:Nat):K x<=es.length:=by
 have:((List.range (K x)).map λm=>dV x (m+1)).length<=D.length:=by
  refine uJ ?_ (λd hd=>?_)
  ·unfold List.Nodup;rw[List.pairwise_map];refine List.Pairwise.imp_of_mem ?_ List.nodup_range;intro a b ha hb hab e;rw[List.mem_range]at ha hb;have h1:=(h.all x (a+1) (by omega) (by omega)).1;have h2:=(h.all x (b+1) (by omega) (by omega)).1;have:=congrArg nth e;rw[dw h1,dw h2]at this;omega
  ·rw[List.mem_map]at hd;obtain⟨m,hm,rfl⟩:=hd;rw[List.mem_range]at hm;exact(h.all x (m+1) (by omega) (by omega)).2
 rw[List.length_map,List.length_range,hE.len]at this;exact this
theorem Cm(K:Nat->Nat):∀n,((List.range n).flatMap λx=>(List.range (K x)).map λm=>dV x (m+1)).length=sumTo K n
 | 0=>rfl
 | n+1=>by rw[List.range_succ,List.flatMap_append,List.length_append,Cm K n];simp[sumTo]
theorem zV(K:Nat->Nat)(hK:∀x,K x<=500):∀n,((List.range n).flatMap λx=>(List.range (K x)).map λm=>dV x (m+1)).Nodup
 | 0=>by simp
 | n+1=>by
  rw[List.range_succ,List.flatMap_append,List.nodup_append];refine⟨zV K hK n, ?_,λa ha b hb e=>?_⟩
  ·simp only[List.flatMap_cons,List.flatMap_nil,List.append_nil];unfold List.Nodup;rw[List.pairwise_map];refine List.Pairwise.imp_of_mem ?_ List.nodup_range;intro a b ha hb hab e;rw[List.mem_range]at ha hb;have:=hK n;have:=congrArg nth e;rw[dw (by omega),dw (by omega)]at this;omega
  ·simp only[List.mem_flatMap,List.mem_range,List.mem_map,List.flatMap_cons,List.flatMap_nil,List.append_nil]at ha hb;obtain⟨x,hx,m,hm,rfl⟩:=ha;obtain⟨m2,hm2,rfl⟩:=hb;have:=hK n;have:=hK x;have:=congrArg who e;rw[eF (by omega),eF (by omega)]at this;omega
theorem Kn.size(h:Kn es D known K C)(hE:zO es D n)(hn:n<=6)(hK:∀x,K x<=500):cnt known=aV K:=by
 unfold aV;rw[<- qL known es.length h.len,<- Cm];have hp:(((List.range es.length).filter (λk=>known.getD k false)).map λi=>D.getD i 0).Perm ((List.range 6).flatMap λx=>(List.range (K x)).map λm=>dV x (m+1)):=by
  refine(List.perm_ext_iff_of_nodup (zU hE (List.Pairwise.filter _ List.nodup_range) (λi hi=>by rw[List.mem_filter,List.mem_range]at hi;rw[hE.len];exact hi.1)) (zV K hK 6)).2 λd=>?_;simp only[List.mem_map,List.mem_filter,List.mem_range,List.mem_flatMap];constructor
  ·rintro⟨i,⟨hi,hk⟩,rfl⟩;have hi':i<D.length:=by rw[hE.len];exact hi
   have h1:=(h.vec i _ (zT hi')).1 hk;have h2:=hE.ok _ (List.mem_of_getElem? (zT hi'));exact⟨who (D.getD i 0),by omega,nth (D.getD i 0)-1,by omega,by rw[show nth (D.getD i 0)-1+1=nth (D.getD i 0)by omega,wo]⟩
  ·rintro⟨x,hx,m,hm,rfl⟩;obtain⟨h1,h2⟩:=h.all x (m+1) (by omega) (by omega);obtain⟨i,hi,he⟩:=List.getElem_of_mem h2;have he':D[i]?=some (dV x (m+1)):=by rw[List.getElem?_eq_getElem hi,he]
   have hd:D.getD i 0=dV x (m+1):=by rw[List.getD_eq_getElem?_getD,he'];(first|done|rfl)
   refine⟨i,⟨by rw[<- hE.len];exact hi,(h.vec i _ he').2 ?_⟩,hd⟩;rw[eF h1,dw h1];omega
 have:=hp.length_eq;rw[List.length_map]at this;exact this
end
theorem Ou(es:List Ev)(al:List Nat)(path:Thk.Bs):vX es al path=yj (Thk.kindOf path) ((rX es al).foldl (oC (Thk.kindOf path) path) ⟨[],0,false⟩):=by
 unfold vX rX;congr 1;generalize (⟨[],0,false⟩:VL)=st;induction al generalizing st with
 | nil=>rfl
 | cons i r ih =>rw[List.foldl_cons,ih,List.filterMap_cons];cases es[i]?<;>rfl
theorem RJ(k:UInt8)(path:Thk.Bs)(hk:(k.toNat:Int)=109):∀(evs:List Ev)(st:VL),(∀e∈evs,ah e.p≠path)->(evs.foldl (oC k path) st).l=((evs.filter λe=>(path++[47]).isPrefixOf (ah e.p)).map λe=>gV path (ah e.p)).foldl kH st.l
 | [],_,_=>rfl
 | e::r,st,h=>by
  have hne:=h e (by simp);have hb:=rQ (ah e.p) path;have h1:(ah e.p==path)=false:=by simpa using hne
  rw[List.foldl_cons,RJ k path hk r _ (λy hy=>h y (by simp[hy])),List.filter_cons];unfold oC;rw[hb,h1];cases hp:(path++[47]).isPrefixOf (ah e.p)
  ·simp
  ·simp[hk,gV]
theorem RP(k:UInt8)(path:Thk.Bs)(hk:(k.toNat:Int)≠109):∀(evs:List Ev)(st:VL),evs.foldl (oC k path) st=⟨((evs.filter λe=>ah e.p==path).map λe=>ah e.v).foldl kH st.l,st.sum+((evs.filter λe=>ah e.p==path).map Ev.n).sum,st.some||evs.any λe=>ah e.p==path⟩
 | [],st=>by simp
 | e::r,st=>by
  have h1:((k.toNat:Int)==109)=false:=by simpa using hk
  rw[List.foldl_cons,RP k path hk r,List.filter_cons];unfold oC;rw[h1];cases hp:(ah e.p==path)
  ·simp[hp]
  ·simp[hp,Int.add_assoc]
structure G7(e:Ev):Prop where
 fit:Thk.fits (Thk.kindOf (ah e.p)) e.a=true
 p:e.p.size<=20
 v:e.v.size<=20
 n1:e.n<=1000000000
 n2:-1000000000<=e.n
theorem En(p:Thk.Bs)(xs:List gX):rW ⟨p.toArray⟩ xs=xs.filter λx=>ah x.p==p:=by unfold rW;congr 1;funext x;rw[toList_eq,toList_eq];rfl
theorem UO(p:Thk.Bs)(xs:List gX):(rW ⟨p.toArray⟩ xs).map key=(xs.map key).filter λy=>y.1==p:=by rw[En,List.filter_map];rfl
theorem UQ{xs:List gX}(path:Thk.Bs)(hf:∀e∈es,G7 e)(hp:(xs.map key).Perm ((rX es (aX es known es.length)).map zS)):oJ path xs=vX es (aX es known es.length) path:=by
 have hal:∀e∈rX es (aX es known es.length),ig e.a=true/\G7 e:=by intro e he;unfold rX at he;obtain⟨i,hi,Xz⟩:=List.mem_filterMap.1 he;unfold aX at hi;have ha:=(List.mem_filter.1 hi).2;unfold alive at ha;rw[Xz]at ha;simp only[Bool.and_eq_true]at ha;exact⟨ha.1.1,hf e (List.mem_of_getElem? Xz)⟩
 rw[Ou];generalize rX es (aX es known es.length)=evs at *;have hkept:∀e∈evs,ah e.p=path->(Thk.kindOf path).toNat≠109/\((Thk.kindOf path).toNat≠102->(Thk.kindOf path).toNat≠99->aC e.a e.v=e.v):=by
  intro e he hpe;obtain⟨h1,h2⟩:=hal e he;have h3:=h2.fit;rw[hpe]at h3;unfold Thk.fits at h3;unfold ig at h1;simp only[Bool.or_eq_true,beq_iff_eq]at h1;unfold aC;refine⟨λh=>?_,λh4 h5=>?_⟩
  ·rw[if_neg (by omega),if_neg (by omega),if_neg (by omega),if_neg (by omega)]at h3;simp only[beq_iff_eq]at h3;omega
  ·by_cases h6:(Thk.kindOf path).toNat=115
   ·rw[if_pos h6]at h3;simp only[Bool.or_eq_true,beq_iff_eq]at h3;rw[if_pos (by omega)]
   ·rw[if_neg h6,if_neg h4]at h3;by_cases h7:(Thk.kindOf path).toNat=114
    ·rw[if_pos h7]at h3;simp only[Bool.or_eq_true,beq_iff_eq]at h3;rw[if_pos (by omega)]
    ·rw[if_neg h7,if_neg h5]at h3;simp only[beq_iff_eq]at h3;omega
 have hmem:∀y,y∈xs.map key↔y∈evs.map zS:=λy=>hp.mem_iff;unfold oJ yj;by_cases k1:(Thk.kindOf path).toNat=109
 ·rw[if_pos k1,if_neg (by omega),if_neg (by omega),RJ _ path (by omega) evs _ (λe he hpe=>(hkept e he hpe).1 k1)];refine(LG _ _ λs=>?_).symm;simp only[List.mem_map,bW,List.mem_filter];constructor
  ·rintro⟨e,⟨he,h1⟩,rfl⟩;obtain⟨x,hx,hk⟩:=List.mem_map.1 ((hmem _).2 (List.mem_map.2 ⟨e,he,rfl⟩));have hpp:ah x.p=ah e.p:=congrArg (·.1) hk;exact⟨⟨(gV path (ah x.p)).toArray⟩,⟨x,⟨hx,by rw[hpp];exact h1⟩,rfl⟩,by rw[hpp];rfl⟩
  ·rintro⟨_,⟨x,⟨hx,h1⟩,rfl⟩,rfl⟩;obtain⟨e,he,hk⟩:=List.mem_map.1 ((hmem _).1 (List.mem_map.2 ⟨x,hx,rfl⟩));have hpp:ah e.p=ah x.p:=congrArg (·.1) hk;exact⟨e,⟨he,by rw[hpp];exact h1⟩,by rw[hpp];rfl⟩
 ·have k1':((Thk.kindOf path).toNat:Int)≠109:=by omega
  rw[if_neg k1,RP _ path k1' evs];by_cases k2:(Thk.kindOf path).toNat=102
  ·have k2i:((Thk.kindOf path).toNat:Int)=102:=by omega
   rw[if_pos k2,if_pos k2i];have:(rW ⟨path.toArray⟩ xs≠[])↔(false||evs.any λe=>ah e.p==path)=true:=by
    rw[Bool.false_or,List.any_eq_true];constructor
    ·intro h;obtain⟨x,hx⟩:=List.exists_mem_of_ne_nil _ h;rw[En]at hx;obtain⟨hx1,hx2⟩:=List.mem_filter.1 hx;obtain⟨e,he,hk⟩:=List.mem_map.1 ((hmem _).1 (List.mem_map.2 ⟨x,hx1,rfl⟩));have hpp:ah e.p=ah x.p:=congrArg (·.1) hk;exact⟨e,he,by rw[hpp];exact hx2⟩
    ·rintro⟨e,he,h1⟩;obtain⟨x,hx,hk⟩:=List.mem_map.1 ((hmem _).2 (List.mem_map.2 ⟨e,he,rfl⟩));have hpp:ah x.p=ah e.p:=congrArg (·.1) hk;refine List.ne_nil_of_mem (a:=x) ?_;rw[En];exact List.mem_filter.2 ⟨hx,by rw[hpp];exact h1⟩
   by_cases h3:rW ⟨path.toArray⟩ xs≠[]
   ·rw[if_pos h3];exact(if_pos (this.1 h3)).symm
   ·rw[if_neg h3];exact(if_neg (λh4=>h3 (this.2 h4))).symm
  ·have k2i:¬((Thk.kindOf path).toNat:Int)=102:=by omega
   rw[if_neg k2,if_neg k2i];by_cases k3:(Thk.kindOf path).toNat=99
   ·have k3i:((Thk.kindOf path).toNat:Int)=99:=by omega
    rw[if_pos k3,if_pos k3i,EN];congr 1;have e1:sumOf (rW ⟨path.toArray⟩ xs)=(((xs.map key).filter λy=>y.1==path).map λy=>y.2.2.2).sum:=by rw[<- UO];unfold sumOf;rw[List.map_map];(first|done|rfl)
    have e2:((evs.filter λe=>ah e.p==path).map Ev.n).sum=(((evs.map zS).filter λy=>y.1==path).map λy=>y.2.2.2).sum:=by rw[List.filter_map,List.map_map];(first|done|rfl)
    rw[e1];show _=0+_;rw[e2,Int.zero_add];exact RI ((hp.filter _).map _)
   ·have k3i:¬((Thk.kindOf path).toNat:Int)=99:=by omega
    rw[if_neg k3,if_neg k3i];refine(LG _ _ λs=>?_).symm;simp only[List.mem_map,En,List.mem_filter];constructor
    ·rintro⟨e,⟨he,h1⟩,rfl⟩;obtain⟨x,hx,hk⟩:=List.mem_map.1 ((hmem _).2 (List.mem_map.2 ⟨e,he,rfl⟩));have hpp:ah x.p=ah e.p:=congrArg (·.1) hk;have hvv:ah x.v=ah (aC e.a e.v):=congrArg (·.2.2.1) hk;rw[(hkept e he (by simpa using h1)).2 k2 k3]at hvv;exact⟨x.v,⟨x,⟨hx,by rw[hpp];exact h1⟩,rfl⟩,hvv⟩
    ·rintro⟨_,⟨x,⟨hx,h1⟩,rfl⟩,rfl⟩;have h1':(ah x.p==path)=true:=h1;obtain⟨e,he,hk⟩:=List.mem_map.1 ((hmem _).1 (List.mem_map.2 ⟨x,hx,rfl⟩));have hpp:ah e.p=ah x.p:=congrArg (·.1) hk;have hvv:ah (aC e.a e.v)=ah x.v:=congrArg (·.2.2.1) hk;rw[<- hpp]at h1';rw[(hkept e he (by simpa using h1')).2 k2 k3]at hvv;exact⟨e,⟨he,h1'⟩,hvv⟩
theorem G8{l:Thk.Bs}{c:Thk.Ch}(h:Thk.read l=.inr c)(he:ig c.act=true):kQ c=l/\l.length=c.path.length+1+c.val.length:=by
 unfold Thk.read at h;split at h
 ·cases h
 ·rename_i h0;have hle:l.findIdx Thk.dG<=l.length:=List.findIdx_le_length;generalize l.findIdx Thk.dG=k at *;have hkl:k<l.length:=by omega
  unfold Thk.iq at h;split at h
  ·cases h
  ·split at h
   ·cases h
   ·have e:=ql h;have hl:l.take k++[l.getD k 0]++l.drop (k+1)=l:=by
     have h1:l.drop k=l.getD k 0::l.drop (k+1):=by rw[List.drop_eq_getElem_cons hkl];simp[hkl]
     rw[List.append_assoc,List.singleton_append,<- h1,List.take_append_drop]
    have p1:c.path=l.take k:=by rw[e]
    have p2:c.act=l.getD k 0:=by rw[e]
    have p3:c.val=l.drop (k+1):=by rw[e]
    refine⟨?_, ?_⟩
    ·rw[<- p2]at h;have hl':c.path++[c.act]++c.val=l:=by rw[p1,p2,p3];exact hl
     unfold kQ yX;have q1:ah ⟨c.path.toArray⟩=c.path:=rfl;rw[q1];unfold ig at he;simp only[Bool.or_eq_true,beq_iff_eq]at he;unfold Thk.operand at h;by_cases h43:c.act.toNat=43\/c.act.toNat=45\/c.act.toNat=61
     ·unfold aC;rw[if_pos h43,if_neg (by omega),List.append_nil];exact hl'
     ·rw[if_neg h43]at h;unfold aC;rw[if_neg h43];have q2:ah ByteArray.empty=[]:=rfl;rw[q2,List.append_nil];by_cases XT:c.act.toNat=62
      ·rw[if_pos XT];rw[if_pos XT]at h;split at h
       ·rename_i m hm;have hn:c.n=m:=(congrArg Thk.Ch.n (Sum.inr.inj h)).symm;rw[hn,(Thk.vZ _ _ hm).2.1,<- p3];exact hl'
       ·cases h
      ·rw[if_neg XT,List.append_nil];rw[if_neg XT]at h;split at h
       ·rename_i hv;rw[<- p3]at hv;rw[hv,List.append_nil]at hl';exact hl'
       ·cases h
    ·rw[p1,p3];have:=congrArg List.length hl;simp only[List.length_append,List.length_singleton]at this;exact this.symm
section
variable{es:List Ev}{D:List Nat}{n:Nat}{known:List Bool}{K:Nat->Nat}{C:Nat->Option Thk.Ch}
theorem Kn.ch(h:Kn es D known K C)(hs:∀e∈es,∃s,Thk.read s=.inr (mY e)){k:Nat}{c:Thk.Ch}(hc:C k=some c):ig c.act=true/\∃s,Thk.read s=.inr c:=by
 obtain⟨i,e,_,ha,he,hce⟩:=h.sup (d:=k) (by rw[hc];simp);rw[hc]at hce;cases hce
 obtain⟨⟨y,hy,heff⟩,_⟩:=(bT es known i).1 ha;rw[he]at hy;cases hy
 exact⟨heff,hs e (List.mem_of_getElem? he)⟩
theorem Kn.chs(h:Kn es D known K C)(hs:∀e∈es,∃s,Thk.read s=.inr (mY e)):∀k c,C k=some c->(c.act=43\/c.act=94\/c.act=61\/c.act=62)/\(-9223372036854775808<=c.n/\c.n<=9223372036854775807)/\c.path.length<=1048576/\(aC c.act ⟨c.val.toArray⟩).size<=1048576/\(kQ c).length<=1000:=by
 intro k c hc;obtain⟨heff,s,hr⟩:=h.ch hs hc;obtain⟨p1,p2,p3,p4,_⟩:=Thk.xG _ _ hr;obtain⟨t1,t2⟩:=G8 hr heff;have hk:=nP c.act ⟨c.val.toArray⟩;have hv:(⟨c.val.toArray⟩:ByteArray).size=c.val.length:=by simp[ByteArray.size]
 refine⟨?_,⟨by omega,by omega⟩,by omega,by omega,by rw[t1];omega⟩;unfold ig at heff;simp only[Bool.or_eq_true,beq_iff_eq]at heff;rcases heff with((h1|h1)|h1)|h1
 ·exact Or.inl (UInt8.toNat_inj.1 h1)
 ·exact Or.inr (Or.inl (UInt8.toNat_inj.1 h1))
 ·exact Or.inr (Or.inr (Or.inl (UInt8.toNat_inj.1 h1)))
 ·exact Or.inr (Or.inr (Or.inr (UInt8.toNat_inj.1 h1)))
theorem Kn.mem(h:Kn es D known K C){d:Nat}(h1:1<=nth d)(h2:nth d<=K (who d)):d∈D:=by have:=(h.all (who d) (nth d) h1 h2).2;rw[wo]at this;exact this
theorem Kn.xs(h:Kn es D known K C)(hE:zO es D n)(he:es.length<=500){xs:List gX}(hx:jU (aO C) xs):xs.length<=500:=by have:=uJ hx.1.1 (m:=D) (λd hd=>by have h1:=dW.1 ((hx.1.2 d).1 hd);obtain⟨i,e,h2,_⟩:=h.sup h1;exact List.mem_of_getElem? h2);rw[hE.len,List.length_map]at this;omega
theorem Kn.ai6(h:Kn es D known K C)(hE:zO es D n)(he:es.length<=500)(hf:∀e∈es,G7 e):sQ (jU (aO C)):=by
 have hev:∀e∈rX es (aX es known es.length),e∈es:=λe he=>by obtain⟨i,_,Xz⟩:=List.mem_filterMap.1 he;exact List.mem_of_getElem? Xz
 constructor
 ·intro xs hx;have:=h.xs hE he hx;omega
 ·intro xs hx x hxm;obtain⟨e,he,hk⟩:=List.mem_map.1 ((h.perm hE hx).mem_iff.1 (List.mem_map.2 ⟨x,hxm,rfl⟩));have hfe:=hf e (hev e he);unfold zS key at hk;simp only[Prod.mk.injEq]at hk;obtain⟨h1,_,h3,h4⟩:=hk;have p1:x.p.size=e.p.size:=by rw[<- aB,<- aB,h1]
  have p2:x.v.size=(aC e.a e.v).size:=by rw[<- aB,<- aB,h3]
  have p3:=nP e.a e.v;have:=hfe.p;have:=hfe.v;have:=hfe.n1;have:=hfe.n2;exact⟨by omega,by omega,by omega,by omega⟩
end
