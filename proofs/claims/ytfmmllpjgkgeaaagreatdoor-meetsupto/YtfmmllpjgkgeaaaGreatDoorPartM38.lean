import Derived.Test.YtfmmllpjgkgeaaaGreatDoorPartM36
import Derived.Test.YtfmmllpjgkgeaaaGreatDoorPartM37
set_option linter.unusedVariables false
set_option linter.unusedSimpArgs false
set_option maxHeartbeats 16000000
set_option maxRecDepth 100000
namespace Go.Proofs.YtfmmllpjgkgeaaaGreatDoor
open Go.RowKit
variable{i:Nat}
structure Hs where
 kn:List Bool
 K:Nat->Nat
 C:Nat->Option Thk.Ch
def Hs.le(a b:Hs):Prop:=∀i,a.kn.getD i false=true->b.kn.getD i false=true
def zW(K:Nat->Nat)(C:Nat->Option Thk.Ch):qX Thk.Ch:=⟨λd=>1<=nth d/\fst K d,C⟩
def Hs.lY(h:Hs):qX Thk.Ch:=zW h.K h.C
abbrev Hs.Ok(es:List Ev)(D:List Nat)(h:Hs):Prop:=Kn es D h.kn h.K h.C
theorem Hs.le.refl(a:Hs):a.le a:=λ_ h=>h
theorem Hs.le.trans{a b c:Hs}(h:a.le b)(k:b.le c):a.le c:=λi hi=>k i (h i hi)
section
variable{es:List Ev}{D:List Nat}{n:Nat}{k1 k2:List Bool}{K1 K2:Nat->Nat}{C1 C2:Nat->Option Thk.Ch}
theorem Kn.alv(h:Kn es D k1 K1 C1)(hE:zO es D n){d:Nat}(hc:C1 d≠none):d∈D/\1<=nth d/\fst K1 d:=by obtain⟨i,e,h1,h2,_⟩:=h.sup hc;have hm:=List.mem_of_getElem? h1;exact⟨hm,(hE.ok d hm).2.1,(h.vec i d h1).1 ((bT es k1 i).1 h2).2.1⟩
theorem sZ{i:Nat}(hle:∀j,k1.getD j false=true->k2.getD j false=true)(h1:k1.getD i false=true)(h:alive es k2 i=true):alive es k1 i=true:=by rw[bT]at h⊢;exact⟨h.1,h1,λd a b c=>h.2.2 d a b (hle d c)⟩
theorem Kn.sle(h:Kn es D k1 K1 C1)(h2:Kn es D k2 K2 C2)(hE:zO es D n)(hle:∀j,k1.getD j false=true->k2.getD j false=true):(zW K1 C1).le (zW K2 C2):=by
 have hs:∀d,(zW K1 C1).S d->∃i,D[i]?=some d/\k1.getD i false=true:=λd hd=>by obtain⟨i,hi,rfl⟩:=List.getElem_of_mem (h.mem hd.1 hd.2);have hi':D[i]?=some D[i]:=List.getElem?_eq_getElem hi;exact⟨i,hi',(h.vec i _ hi').2 hd.2⟩
 refine⟨λd hd=>?_,λd hd=>?_⟩
 ·obtain⟨i,hi,hk⟩:=hs d hd;exact⟨hd.1,(h2.vec i d hi).1 (hle i hk)⟩
 ·obtain⟨i,hi,hk⟩:=hs d hd.1;refine⟨⟨hd.1.1,(h2.vec i d hi).1 (hle i hk)⟩, ?_⟩;show C2 d=none;rw[h2.c1 i d hi];refine if_neg λha=>?_;have ha1:=sZ hle hk ha;have h3:C1 d=none:=hd.2;rw[h.c1 i d hi,if_pos ha1]at h3;have hil:i<es.length:=by rw[<- hE.len];exact(List.getElem?_eq_some_iff.1 hi).1
  rw[List.getElem?_eq_getElem hil]at h3;cases h3
theorem Kn.uniq(h:Kn es D k1 K1 C1)(h2:Kn es D k2 K2 C2)(hk:∀j,k1.getD j false=k2.getD j false):C1=C2/\∀d,1<=nth d->(fst K1 d↔fst K2 d):=by
 refine⟨?_,λd hd=>?_⟩
 ·funext d;by_cases hm:d∈D
  ·obtain⟨i,hi,rfl⟩:=List.getElem_of_mem hm;have hi':D[i]?=some D[i]:=List.getElem?_eq_getElem hi;rw[h.c1 i _ hi',h2.c1 i _ hi'];by_cases ha:alive es k1 i=true
   ·have hk1:=((bT es k1 i).1 ha).2.1;rw[if_pos ha,if_pos (sZ (k1:=k2) (k2:=k1) (λj hj=>by rw[hk];exact hj) (by rw[<- hk];exact hk1) ha)]
   ·rw[if_neg ha,if_neg (λha2=>ha (sZ (k1:=k1) (k2:=k2) (λj hj=>by rw[<- hk];exact hj) (by rw[hk];exact((bT es k2 i).1 ha2).2.1) ha2))]
  ·rw[h.c2 d hm,h2.c2 d hm]
 ·constructor
  ·intro hf;obtain⟨i,hi,rfl⟩:=List.getElem_of_mem (h.mem hd hf);have hi':D[i]?=some D[i]:=List.getElem?_eq_getElem hi;exact(h2.vec i _ hi').1 (by rw[<- hk];exact(h.vec i _ hi').2 hf)
  ·intro hf;obtain⟨i,hi,rfl⟩:=List.getElem_of_mem (h2.mem hd hf);have hi':D[i]?=some D[i]:=List.getElem?_eq_getElem hi;exact(h.vec i _ hi').1 (by rw[hk];exact(h2.vec i _ hi').2 hf)
theorem Kn.VE(h:Kn es D k1 K1 C1)(h2:Kn es D k2 K2 C2)(hE:zO es D n):qX.join (zW K2 C2) (zW K1 C1) (zW (jr K1 K2) (iO K1 C1 K2 C2)):=by
 have hmx:∀d,fst (jr K1 K2) d↔fst K1 d\/fst K2 d:=λd=>by unfold fst jr;omega
 refine⟨λd=>?_,λd=>?_,λd c hc=>?_⟩
 ·show(1<=nth d/\fst (jr K1 K2) d)↔(1<=nth d/\fst K2 d)\/(1<=nth d/\fst K1 d);rw[hmx];constructor
  ·rintro⟨a,b|b⟩
   ·exact Or.inr ⟨a,b⟩
   ·exact Or.inl ⟨a,b⟩
  ·rintro(⟨a,b⟩|⟨a,b⟩)
   ·exact⟨a,Or.inr b⟩
   ·exact⟨a,Or.inl b⟩
 ·constructor
  ·rintro⟨⟨a,b⟩,hc⟩;have hc':iO K1 C1 K2 C2 d=none:=hc;by_cases g1:C1 d=none/\nth d<=K1 (who d)
   ·exact Or.inr ⟨⟨a,g1.2⟩,g1.1⟩
   by_cases g2:C2 d=none/\nth d<=K2 (who d)
   ·exact Or.inl ⟨⟨a,g2.2⟩,g2.1⟩
   unfold iO at hc';rw[if_neg (λh=>h.elim g1 g2)]at hc';rw[Option.or_eq_none_iff]at hc';rcases(hmx d).1 b with b|b
   ·exact absurd ⟨hc'.1,b⟩ g1
   ·exact absurd ⟨hc'.2,b⟩ g2
  ·rintro(⟨⟨a,b⟩,hc⟩|⟨⟨a,b⟩,hc⟩)
   ·exact⟨⟨a,(hmx d).2 (Or.inr b)⟩,by show iO K1 C1 K2 C2 d=none;unfold iO;rw[if_pos (Or.inr ⟨hc,b⟩)]⟩
   ·exact⟨⟨a,(hmx d).2 (Or.inl b)⟩,by show iO K1 C1 K2 C2 d=none;unfold iO;rw[if_pos (Or.inl ⟨hc,b⟩)]⟩
 ·have hc':iO K1 C1 K2 C2 d=some c:=hc;unfold iO at hc';split at hc'
  ·cases hc'
  ·rcases Option.or_eq_some_iff.1 hc' with h3|h3
   ·exact Or.inr h3
   ·exact Or.inl h3.2
theorem qX.Ov{V:Type}{a b r r':qX V}(h:qX.join a b r)(h':qX.join a b r')(k1:∀d,r.C d≠none->r.S d)(k2:∀d,r'.C d≠none->r'.S d)(same:∀d c c',a.C d=some c->b.C d=some c'->c=c'):r.C=r'.C:=by
 have key:∀{r r':qX V},qX.join a b r->qX.join a b r'->(∀d,r.C d≠none->r.S d)->∀d c,r.C d=some c->r'.C d≠none:=λ{r r'}h h' k1 d c hc hn=>by have hs:r.S d:=k1 d (by rw[hc];simp);have:r'.gone d:=⟨(h'.1 d).2 ((h.1 d).1 hs),hn⟩;have:=(h.2.1 d).2 ((h'.2.1 d).1 this);rw[this.2]at hc;cases hc
 funext d;cases h1:r.C d with
 | none =>
  cases h2:r'.C d with
  | none=>rfl
  | some c=>exact absurd h1 (key h' h k2 d c h2)
 | some c =>
  cases h2:r'.C d with
  | none=>exact absurd h2 (key h h' k1 d c h1)
  | some c' =>
   rcases h.2.2 d c h1 with e1|e1<;>rcases h'.2.2 d c' h2 with e2|e2
   ·rw[e1]at e2;exact e2
   ·rw[same d c c' e1 e2]
   ·rw[same d c' c e2 e1]
   ·rw[e1]at e2;exact e2
theorem AZ{S2:Nat->Prop}{F2:Nat->Option Thk.Ch}{rs:List (Nat×Nat)}{its:List (Nat×Thk.Bs)}(he:jE S2 F2 rs its)(h1:Kn es D k1 K1 C1)(h2:Kn es D k2 K2 C2)(hE:zO es D n)(hb:Brings ⟨λd=>1<=nth d/\S2 d,F2⟩ (zW K2 C2) (zW K1 C1))(io co lo:Option Nat)(r:RD)(hK:r.K=K1)(hC:r.C=C1):sU ([⟨io,co,lo,λd=>aO F2 d≠none\/d∈bP rs,aO F2⟩]++[r.known]) (jr K1 K2) (iO K1 C1 K2 C2):=by
 subst hK hC;have hex:∀(Q:jh->Prop),(∃s∈([⟨io,co,lo,λd=>aO F2 d≠none\/d∈bP rs,aO F2⟩]++[r.known]:List jh),Q s)↔Q ⟨io,co,lo,λd=>aO F2 d≠none\/d∈bP rs,aO F2⟩\/Q r.known:=λQ=>by simp
 have hd:∀d,1<=nth d->((aO F2 d≠none\/d∈bP rs)↔S2 d):=λd h=>by rw[<- he.it];exact he.dots d h
 have hj:=h1.VE h2 hE;constructor
 ·intro It hok p1 p2;have p1':∀d v,It d=some v->(aO F2 d=some v\/aO r.C d=some v)/\¬((aO F2 d=none/\(aO F2 d≠none\/d∈bP rs))\/(aO r.C d=none/\fst r.K d)):=λd v hv=>by have:=p1 d v hv;unfold bJ at this;rw[hex,hex]at this;exact this
  have p2':∀d,(aO F2 d≠none\/aO r.C d≠none)->¬((aO F2 d=none/\(aO F2 d≠none\/d∈bP rs))\/(aO r.C d=none/\fst r.K d))->It d≠none:=λd a b=>by refine p2 d ((hex _).2 a) (λhg=>b ?_);unfold bJ at hg;rw[hex]at hg;exact hg
  obtain⟨C',hC'⟩:∃C':Nat->Option Thk.Ch,∀d,(It d=none->C' d=none)/\(It d≠none->C' d=(F2 d).or (r.C d)):=by
   refine⟨λd=>(It d).bind λ_=>(F2 d).or (r.C d),λd=>⟨λh=>?_,λh=>?_⟩⟩
   ·show(It d).bind _=none;rw[h];(first|done|rfl)
   ·obtain⟨v,hv⟩:=Option.ne_none_iff_exists'.1 h;show(It d).bind _=_;rw[hv];(first|done|rfl)
  have hsame:∀d c c',F2 d=some c->r.C d=some c'->c=c':=λd c c' a b=>by
   rcases hb.c d c a with h3|h3
   ·exact h2.same h1 d c c' h3 b
   ·have h4:r.C d=none:=h3.2;rw[h4]at b;cases b
  have Du:It=aO C':=by
   funext d;cases hv:It d with
   | none=>unfold aO;rw[(hC' d).1 hv];(first|done|rfl)
   | some v =>
    have h3:=(hC' d).2 (by rw[hv];simp);unfold aO;rw[h3];rcases(p1' d v hv).1 with h4|h4
    ·obtain⟨c,hc,rfl⟩:=nZ h4;rw[hc];(first|done|rfl)
    ·obtain⟨c,hc,rfl⟩:=nZ h4;cases hf:F2 d with
     | none=>rw[hc];(first|done|rfl)
     | some c2=>rw[hsame d c2 c hf hc];(first|done|rfl)
  have hok':∀d,C' d≠none->1<=nth d:=λd h=>(hok d (λe=>h ((hC' d).1 e))).2.1;have hjr:qX.join ⟨λd=>1<=nth d/\S2 d,F2⟩ (zW r.K r.C) ⟨λd=>1<=nth d/\(S2 d\/fst r.K d),C'⟩:=by
   refine⟨λd=>⟨?_, ?_⟩,λd=>⟨?_, ?_⟩,λd c hc=>?_⟩
   ·rintro⟨a,b|b⟩
    ·exact Or.inl ⟨a,b⟩
    ·exact Or.inr ⟨a,b⟩
   ·rintro(⟨a,b⟩|⟨a,b⟩)
    ·exact⟨a,Or.inl b⟩
    ·exact⟨a,Or.inr b⟩
   ·rintro⟨⟨a,b⟩,hc⟩;have hc':C' d=none:=hc;refine Classical.byContradiction λhn=>?_;have Dv:¬((aO F2 d=none/\(aO F2 d≠none\/d∈bP rs))\/(aO r.C d=none/\fst r.K d)):=by
     rintro(⟨x,y⟩|⟨x,y⟩)
     ·exact hn (Or.inl ⟨⟨a,(hd d a).1 y⟩,fM.1 x⟩)
     ·exact hn (Or.inr ⟨⟨a,y⟩,fM.1 x⟩)
    have hit:It d≠none:=p2' d (by
     rcases b with b|b
     ·exact Or.inl (λe=>Dv (Or.inl ⟨e,(hd d a).2 b⟩))
     ·exact Or.inr (λe=>Dv (Or.inr ⟨e,b⟩))) Dv
    rw[Du]at hit;exact dW.1 hit hc'
   ·intro hg;have Dv:(aO F2 d=none/\(aO F2 d≠none\/d∈bP rs))\/(aO r.C d=none/\fst r.K d):=by
     rcases hg with⟨⟨a,b⟩,c⟩|⟨⟨a,b⟩,c⟩
     ·exact Or.inl ⟨fM.2 c,(hd d a).2 b⟩
     ·exact Or.inr ⟨fM.2 c,b⟩
    refine⟨by rcases hg with⟨⟨a,b⟩,c⟩|⟨⟨a,b⟩,c⟩;exact⟨a,Or.inl b⟩;exact⟨a,Or.inr b⟩, ?_⟩;show C' d=none;refine(hC' d).1 ?_;cases hv:It d with
    | none=>rfl
    | some v=>exact absurd Dv (p1' d v hv).2
   ·have hc':C' d=some c:=hc;have hne:It d≠none:=λe=>by rw[(hC' d).1 e]at hc';cases hc'
    rw[(hC' d).2 hne]at hc';rcases Option.or_eq_some_iff.1 hc' with h3|h3
    ·exact Or.inl h3
    ·exact Or.inr h3.2
  have hu:=qX.Ov (hb.join hjr) hj (λd h=>?_) (λd h=>?_) (λd c c' a b=>h2.same h1 d c c' a b)
  ·rw[Du];exact congrArg aO hu
  ·have hne:It d≠none:=λe=>h ((hC' d).1 e);obtain⟨v,hv⟩:=Option.ne_none_iff_exists'.1 hne;have hd1:=hok' d h;refine⟨hd1, ?_⟩;rcases(p1' d v hv).1 with h4|h4
   ·exact Or.inl ((hd d hd1).1 (Or.inl (by rw[h4];simp)))
   ·obtain⟨c,hc,_⟩:=nZ h4;exact Or.inr (h1.alv hE (by rw[hc];simp)).2.2
  ·obtain⟨c,hc⟩:=Option.ne_none_iff_exists'.1 h;have hmx:fst r.K d\/fst K2 d->fst (jr r.K K2) d:=λh=>by unfold fst jr at *;omega
   rcases hj.2.2 d c hc with h3|h3
   ·have:=h2.alv hE (d:=d) (by have h3':C2 d=some c:=h3;rw[h3'];simp);exact⟨this.2.1,hmx (Or.inr this.2.2)⟩
   ·have:=h1.alv hE (d:=d) (by have h3':r.C d=some c:=h3;rw[h3'];simp);exact⟨this.2.1,hmx (Or.inl this.2.2)⟩
 ·intro d h;rw[hex];have hmx:fst (jr r.K K2) d↔fst r.K d\/fst K2 d:=by unfold fst jr;omega
  rw[hmx];constructor
  ·rintro(h3|h3)
   ·exact Or.inr (hb.a d ⟨h,(hd d h).1 h3⟩).2
   ·exact Or.inl h3
  ·rintro(h3|h3)
   ·exact Or.inr h3
   ·rcases hb.b d ⟨h,h3⟩with h4|h4
    ·exact Or.inl ((hd d h).2 h4.2)
    ·exact Or.inr h4.2
theorem Kn.UR(h:Kn es D k1 K1 C1)(hE:zO es D n)(hn:n<=6)(he:es.length<=500)(hs:∀e∈es,∃t,Thk.read t=.inr (mY e)):kR (fst K1) C1:=by
 refine⟨λns hnd hm=>?_,λk hk=>?_,h.chs hs,λk c hc=>?_⟩
 ·have:=uJ hnd (m:=D) (λd hd=>h.mem (hm d hd).1 (hm d hd).2);rw[hE.len]at this;omega
 ·have h1:=h.alv hE hk;have h2:=hE.ok k h1.1;exact⟨⟨by omega,h2.2.1,by omega⟩,h1.2.2⟩
 ·obtain⟨heff,t,ht⟩:=h.ch hs hc;have:=(G8 ht heff).1;exact⟨by rw[this];exact ht,heff⟩
theorem UU{c c':Thk.Ch}(h:N9 c)(h':N9 c')(e:qO c=qO c'):c=c':=by
 unfold qO at e;simp only[Value.agg.injEq]at e;have e0:=congrArg Array.toList e;simp only[List.cons.injEq,Value.string.injEq,Value.int.injEq,true_and,and_true]at e0;obtain⟨a1,a2,a3,a4⟩:=e0;have a5:c.act=c'.act:=UInt8.toNat_inj.1 (by omega);have:kQ c=kQ c':=by unfold kQ;rw[a1,a3,a4,a5]
 have h1:=h.2.1;have h2:=h'.2.1;rw[this,h2]at h1;exact(Sum.inr.inj h1).symm
end
def newH(a b:Hs)(d:Nat):Prop:=fst b.K d/\¬(fst a.K d/\(b.C d=none↔a.C d=none))
open Classical in
noncomputable def zX(a b:Hs)(d:Nat):Option Thk.Ch:=if newH a b d then b.C d else none
theorem G9{a b:Hs}{d:Nat}(h:newH a b d):zX a b d=b.C d:=by unfold zX;rw[if_pos h]
theorem zY{a b:Hs}{d:Nat}{c:Thk.Ch}(h:zX a b d=some c):newH a b d/\b.C d=some c:=by
 unfold zX at h;split at h
 ·rename_i h1;exact⟨h1,h⟩
 ·cases h
def vV(a b o:Hs):Prop:=∀d,1<=nth d->newH a b d->o.lY.S d/\(b.C d=none->o.lY.gone d)
theorem vV.later{a b o o':Hs}(h:vV a b o)(ho:o.lY.le o'.lY):vV a b o':=λd h1 h2=>⟨ho.s d (h d h1 h2).1,λh3=>ho.g d ((h d h1 h2).2 h3)⟩
structure zZ(P:Hs->Prop)(i:Nat)(o:Nat->Hs)(p:jA)(a b:Hs):Prop where
 pb:P b
 le:a.le b
 mark:p.mark=cnt b.kn
 s:p.st.S=newH a b
 it:p.st.It=aO (zX a b)
 fr:p.fr≠i->vV a b (o p.fr)
def fP(P:Hs->Prop)(i:Nat)(o:Nat->Hs):Hs->List jA->Hs->Prop
 | s,[],t=>s=t
 | s,p::ps,t=>∃b,zZ P i o p s b/\fP P i o b ps t
theorem zZ.imp{P P':Hs->Prop}{o o':Nat->Hs}{p:jA}{a b:Hs}(h:zZ P i o p a b)(hP:∀h,P h->P' h)(ho:∀j,(o j).lY.le (o' j).lY):zZ P' i o' p a b:=⟨hP _ h.pb,h.le,h.mark,h.s,h.it,λhf=>(h.fr hf).later (ho _)⟩
theorem fP.imp{P P':Hs->Prop}{o o':Nat->Hs}(hP:∀h,P h->P' h)(ho:∀j,(o j).lY.le (o' j).lY):∀{ps:List jA}{s t:Hs},fP P i o s ps t->fP P' i o' s ps t
 | [],_,_,h=>h
 | p::ps,s,t,⟨b,h1,h2⟩=>⟨b,h1.imp hP ho,fP.imp hP ho h2⟩
theorem fP.snoc{P:Hs->Prop}{o:Nat->Hs}{p:jA}{t u:Hs}(hp:zZ P i o p t u):∀{ps:List jA}{s:Hs},fP P i o s ps t->fP P i o s (ps++[p]) u
 | [],s,h=>by cases h;exact⟨u,hp,rfl⟩
 | q::ps,s,⟨b,h1,h2⟩=>⟨b,h1,fP.snoc hp h2⟩
theorem fP.mem{P:Hs->Prop}{o:Nat->Hs}:∀{ps:List jA}{s t:Hs},fP P i o s ps t->P s->∀p∈ps,∃a b,P a/\zZ P i o p a b
 | [],_,_,_,_,p,hp=>by simp at hp
 | q::ps,s,t,⟨b,h1,h2⟩,hs,p,hp=>by
  rcases List.mem_cons.1 hp with rfl|hp
  ·exact⟨s,b,hs,h1⟩
  ·exact fP.mem h2 h1.pb p hp
theorem fP.came{P:Hs->Prop}{o:Nat->Hs}:∀{ps:List jA}{s t:Hs},fP P i o s ps t->P s->∀d,t.lY.S d->s.lY.S d\/∃p∈ps,∃a b,P a/\zZ P i o p a b/\newH a b d
 | [],s,t,h,_,d,hd=>by cases h;exact Or.inl hd
 | q::ps,s,t,⟨b,h1,h2⟩,hs,d,hd=>by
  rcases fP.came h2 h1.pb d hd with h4|⟨p,hp,h4⟩
  ·by_cases hs2:s.lY.S d
   ·exact Or.inl hs2
   ·exact Or.inr ⟨q,by simp,s,b,hs,h1,h4.2,λe=>hs2 ⟨h4.1,e.1⟩⟩
  ·exact Or.inr ⟨p,by simp[hp],h4⟩
theorem fP.gone{P:Hs->Prop}{o:Nat->Hs}:∀{ps:List jA}{s t:Hs},fP P i o s ps t->P s->∀d,t.lY.gone d->s.lY.gone d\/∃p∈ps,∃a b,P a/\zZ P i o p a b/\newH a b d/\b.C d=none
 | [],s,t,h,_,d,hd=>by cases h;exact Or.inl hd
 | q::ps,s,t,⟨b,h1,h2⟩,hs,d,hd=>by
  rcases fP.gone h2 h1.pb d hd with h4|⟨p,hp,h4⟩
  ·by_cases hs2:s.lY.gone d
   ·exact Or.inl hs2
   ·exact Or.inr ⟨q,by simp,s,b,hs,h1,⟨h4.1.2,λe=>hs2 ⟨⟨h4.1.1,e.1⟩,e.2.1 h4.2⟩⟩,h4.2⟩
  ·exact Or.inr ⟨p,by simp[hp],h4⟩
structure kK(es:List Ev)(D:List Nat)(i:Nat)(P:Hs->Prop)(o:Nat->Hs)(cur:Hs)(r:RD):Prop where
 ok:∀h,P h->h.Ok es D
 nil:∃h,P h/\cnt h.kn=0
 now:P cur
 cK:cur.K=r.K
 cC:cur.C=r.C
 ord:∀h h',P h->P h'->cnt h.kn<=cnt h'.kn->h.le h'
 top:∀h,P h->h.le cur
 dr:∃s,P s/\cnt s.kn=r.dr/\fP P i o s r.ps cur
 ack:∀j,∃t,P t/\cnt t.kn=r.A j/\t.le (o j)
section
variable{es es':List Ev}{D D':List Nat}{n i:Nat}{P:Hs->Prop}{o o':Nat->Hs}{cur:Hs}{r:RD}
theorem kK.step(h:kK es D i P o cur r)(hk:∀h,P h->h.Ok es D->h.Ok es' D')(ho:∀j,(o j).lY.le (o' j).lY/\(o j).le (o' j)):kK es' D' i P o' cur r:=by obtain⟨s,h1,h2,h3⟩:=h.dr;exact⟨λx hx=>hk x hx (h.ok x hx),h.nil,h.now,h.cK,h.cC,h.ord,h.top,⟨s,h1,h2,h3.imp (λ_ h=>h) (λj=>(ho j).1)⟩,λj=>by obtain⟨t,a1,a2,a3⟩:=h.ack j;exact⟨t,a1,a2,a3.trans (ho j).2⟩⟩
theorem Hs.cnt_le{a b:Hs}(ha:a.Ok es D)(hb:b.Ok es D)(h:a.le b):cnt a.kn<=cnt b.kn:=(uU a.kn b.kn es.length h ha.len hb.len).1
theorem kK.add(h:kK es D i P o cur r){cur':Hs}(hk:cur'.Ok es D)(hle:cur.le cur')(hlt:cnt cur.kn<cnt cur'.kn)(hsz:aV cur'.K=cnt cur'.kn){io co lo:Nat}{pv:Value}{fr:Nat}{st:jh}(hS:st.S=fD r cur'.K cur'.C)(hI:st.It=aO (newC r cur'.K cur'.C))(hf:fr≠i->vV cur cur' (o fr)):kK es D i (λx=>P x\/x=cur') o cur' (r.more io co lo pv fr st cur'.K cur'.C):=by
 have hPP:∀x,P x->P x\/x=cur':=λx hx=>Or.inl hx;obtain⟨s,d1,d2,d3⟩:=h.dr;have hpc:zZ (λx=>P x\/x=cur') i o ⟨aV cur'.K,fr,st⟩ cur cur':=⟨Or.inr rfl,hle,hsz,by
  show st.S=_;rw[hS];unfold fD newH;rw[h.cK,h.cC],by
  show st.It=_;rw[hI];congr 1;funext d;unfold newC zX;have:fD r cur'.K cur'.C d=newH cur cur' d:=by unfold fD newH;rw[h.cK,h.cC]
  rw[this],hf⟩
 have hch:=fP.snoc hpc (d3.imp hPP (λj=>qX.le.refl _));refine⟨λx hx=>?_, ?_,Or.inr rfl,rfl,rfl,λx y hx hy hc=>?_,λx hx=>?_, ?_,λj=>?_⟩
 ·rcases hx with hx|rfl
  ·exact h.ok x hx
  ·exact hk
 ·obtain⟨x,a,b⟩:=h.nil;exact⟨x,Or.inl a,b⟩
 ·rcases hx with hx|rfl<;>rcases hy with hy|rfl
  ·exact h.ord x y hx hy hc
  ·exact(h.top x hx).trans hle
  ·have:=Hs.cnt_le (h.ok y hy) (h.ok cur h.now) (h.top y hy);omega
  ·exact Hs.le.refl _
 ·rcases hx with hx|rfl
  ·exact(h.top x hx).trans hle
  ·exact Hs.le.refl _
 ·show ∃s,(P s\/s=cur')/\cnt s.kn=xu r.room r.dr r.ps ⟨aV cur'.K,fr,st⟩/\fP (λx=>P x\/x=cur') i o s (uF r.room r.ps ⟨aV cur'.K,fr,st⟩) cur';unfold xu uF;by_cases hr:r.room<r.ps.length+1
  ·rw[if_pos hr,if_pos hr];generalize hq:r.ps++[(⟨aV cur'.K,fr,st⟩:jA)]=qs at hch⊢;cases qs with
   | nil=>simp at hq
   | cons q qs =>obtain⟨b,b1,b2⟩:=hch;exact⟨b,b1.pb,b1.mark.symm,b2⟩
  ·rw[if_neg hr,if_neg hr];exact⟨s,Or.inl d1,d2,hch⟩
 ·obtain⟨t,a1,a2,a3⟩:=h.ack j;exact⟨t,Or.inl a1,a2,a3⟩
theorem kK.KX(h:kK es D i P o cur r)(j:Nat){t:Hs}(ht:P t)(hl:t.le (o j)):kK es D i P o cur (r.ack j (cnt t.kn)):=by
 refine⟨h.ok,h.nil,h.now,h.cK,h.cC,h.ord,h.top,h.dr,λx=>?_⟩;show ∃u,P u/\cnt u.kn=(if x=j then max (r.A j) (cnt t.kn)else r.A x)/\u.le (o x);by_cases e:x=j
 ·subst e;rw[if_pos rfl];obtain⟨u,a1,a2,a3⟩:=h.ack x;by_cases hc:r.A x<=cnt t.kn
  ·exact⟨t,ht,by omega,hl⟩
  ·exact⟨u,a1,by omega,a3⟩
 ·rw[if_neg e];exact h.ack x
theorem Hs.sle{a b:Hs}(ha:a.Ok es D)(hb:b.Ok es D)(hE:zO es D n)(h:a.le b):a.lY.le b.lY:=Kn.sle ha hb hE h
theorem kK.ai7(h:kK es D i P o cur r)(hE:zO es D n)(hn:n<=6)(he:es.length<=500)(hs:∀e∈es,∃t,Thk.read t=.inr (mY e)):UF r:=by
 obtain⟨s,d1,d2,d3⟩:=h.dr;refine⟨λp hp=>?_,λp hp d hd hS=>?_⟩
 ·obtain⟨a,b,ha,hb⟩:=d3.mem d1 p hp;exact⟨zX a b,hb.it,λk c hc=>((h.ok b hb.pb).UR hE hn he hs).all k c (zY hc).2⟩
 ·obtain⟨a,b,ha,hb⟩:=d3.mem d1 p hp;rw[hb.s]at hS;rw[<- h.cK];exact((Hs.sle (h.ok b hb.pb) (h.ok cur h.now) hE (h.top b hb.pb)).s d ⟨hd,hS.1⟩).2
theorem kK.brings(h:kK es D i P o cur r)(hE:zO es D n)(hn:n<=6)(he:es.length<=500)(hsr:∀e∈es,∃t,Thk.read t=.inr (mY e)){j:Nat}(hj:j≠i)(hoj:(o j).Ok es D){S:Nat->Prop}{C:Nat->Option Thk.Ch}(hB:kR S C)(hSd:GK r j S C):Brings ⟨λd=>1<=nth d/\S d,C⟩ cur.lY (o j).lY:=by
 rcases hSd with⟨rfl,rfl⟩|⟨hdr,rfl,p1,p2⟩
 ·have:(⟨λd=>1<=nth d/\fst r.K d,r.C⟩:qX Thk.Ch)=cur.lY:=by unfold Hs.lY zW;rw[h.cK,h.cC]
  rw[this];exact Brings.whole _ _
 ·obtain⟨s,d1,d2,d3⟩:=h.dr;obtain⟨t,t1,t2,t3⟩:=h.ack j;have hcur:=h.ok cur h.now;have hts:t.lY.le (o j).lY:=Hs.sle (h.ok t t1) hoj hE t3;have hso:s.lY.le (o j).lY:=(Hs.sle (h.ok s d1) (h.ok t t1) hE (h.ord s t d1 t1 (by omega))).trans hts;have hbc:∀b,P b->b.lY.le cur.lY:=λb hb=>Hs.sle (h.ok b hb) hcur hE (h.top b hb)
  -- a piece is sent,or the other one has it
  have key:∀p∈r.ps,∀a b,zZ P i o p a b->p.st∈bV j (r.A j) r.ps\/∀d,1<=nth d->newH a b d->(o j).lY.S d/\(b.C d=none->(o j).lY.gone d):=λp hp a b hb=>by
   by_cases hm:p.mark<=r.A j
   ·refine Or.inr λd hd hnw=>?_;have Ub:b.lY.le (o j).lY:=(Hs.sle (h.ok b hb.pb) (h.ok t t1) hE (h.ord b t hb.pb t1 (by rw[<- hb.mark,t2];exact hm))).trans hts;exact⟨Ub.s d ⟨hd,hnw.1⟩,λhc=>Ub.g d ⟨⟨hd,hnw.1⟩,hc⟩⟩
   ·by_cases hf:p.fr=j
    ·refine Or.inr λd hd hnw=>?_;have:=hb.fr (by rw[hf];exact hj);rw[hf]at this;exact this d hd hnw
    ·refine Or.inl ?_;unfold bV;refine List.mem_map.2 ⟨p,List.mem_filter.2 ⟨hp, ?_⟩,rfl⟩;simp[hf];omega
  have hsome:∀d v,aO C d=some v->(∃s∈bV j (r.A j) r.ps,s.It d=some v)/\¬bJ (bV j (r.A j) r.ps) d:=p1;have hgn:∀p∈r.ps,∀a b d,zZ P i o p a b->p.st∈bV j (r.A j) r.ps->newH a b d->b.C d=none->bJ (bV j (r.A j) r.ps) d:=λp hp a b d hb hm hnw hc=>⟨p.st,hm,by rw[hb.it];exact fM.2 (by rw[G9 hnw];exact hc),by rw[hb.s];exact hnw⟩;refine⟨λd hd=>?_,λd hd=>?_,λd c hdc=>?_,λd hd=>?_,λd hd=>?_⟩
  ·obtain⟨hd1,s',hs',hS⟩:=hd;obtain⟨p,hp,rfl,_⟩:=kY hs';obtain⟨a,b,ha,hb⟩:=d3.mem d1 p hp;rw[hb.s]at hS;exact(hbc b hb.pb).s d ⟨hd1,hS.1⟩
  ·rcases d3.came d1 d hd with h1|⟨p,hp,a,b,ha,hb,hnw⟩
   ·exact Or.inr (hso.s d h1)
   ·rcases key p hp a b hb with h2|h2
    ·exact Or.inl ⟨hd.1,p.st,h2,by rw[hb.s];exact hnw⟩
    ·exact Or.inr (h2 d hd.1 hnw).1
  ·have ac0:C d=some c:=hdc;have hi:aO C d=some (qO c):=by unfold aO;rw[ac0];(first|done|rfl)
   obtain⟨⟨s',hs',hv⟩,Dv⟩:=hsome d _ hi;obtain⟨p,hp,rfl,_⟩:=kY hs';obtain⟨a,b,ha,hb⟩:=d3.mem d1 p hp;rw[hb.it]at hv;obtain⟨c',hc',e⟩:=nZ hv;obtain⟨hnw,XA⟩:=zY hc';have hcc:c=c':=UU (hB.all d c ac0) (((h.ok b hb.pb).UR hE hn he hsr).all d c' XA) e;subst hcc;have hd1:=(h.ok b hb.pb).alv hE (d:=d) (by rw[XA];simp);have hcs:=(hbc b hb.pb).s d hd1.2;cases XB:cur.C d with
   | some c2=>exact Or.inl (by show cur.C d=some c;rw[XB,(h.ok b hb.pb).same hcur d c c2 XA XB])
   | none =>
    refine Or.inr ?_;rcases d3.gone d1 d ⟨hcs,XB⟩with h3|⟨q,hq,a',b',ha',hb',ac1,hc''⟩
    ·exact hso.g d h3
    ·rcases key q hq a' b' hb' with h4|h4
     ·exact absurd (hgn q hq a' b' d hb' h4 ac1 hc'') Dv
     ·exact(h4 d hd1.2.1 ac1).2 hc''
  ·obtain⟨⟨hd1,s',hs',hS⟩,hc⟩:=hd;have hc':C d=none:=hc;by_cases hg:bJ (bV j (r.A j) r.ps) d
   ·obtain⟨s2,hs2,hi2,hS2⟩:=hg;obtain⟨p,hp,rfl,_⟩:=kY hs2;obtain⟨a,b,ha,hb⟩:=d3.mem d1 p hp;rw[hb.s]at hS2;rw[hb.it]at hi2;have:=fM.1 hi2;rw[G9 hS2]at this;exact(hbc b hb.pb).g d ⟨⟨hd1,hS2.1⟩,this⟩
   ·have:s'.It d≠none:=λe=>hg ⟨s',hs',e,hS⟩;exact absurd (fM.2 hc') (p2 d ⟨s',hs',this⟩ hg)
  ·rcases d3.gone d1 d hd with h1|⟨p,hp,a,b,ha,hb,hnw,hc⟩
   ·exact Or.inr (hso.g d h1)
   ·rcases key p hp a b hb with h2|h2
    ·have hg:=hgn p hp a b d hb h2 hnw hc;refine Or.inl ⟨⟨hd.1.1,p.st,h2,by rw[hb.s];exact hnw⟩, ?_⟩;show C d=none;cases hcd:C d with
     | none=>rfl
     | some c=>exact absurd hg (hsome d (qO c) (by unfold aO;rw[hcd];rfl)).2
    ·exact Or.inr ((h2 d hd.1.1 hnw).2 hc)
end
