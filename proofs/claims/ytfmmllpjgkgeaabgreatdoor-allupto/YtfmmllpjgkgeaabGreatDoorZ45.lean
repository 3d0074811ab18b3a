import Derived.Test.YtfmmllpjgkgeaabGreatDoorZ44
set_option linter.all false
set_option maxHeartbeats 0
set_option maxRecDepth 100000
namespace Go.Proofs.YtfmmllpjgkgeaabGreatDoor
section
open Go.Proofs.Tryz Go.RowKit Go.Maps Go.WideMaps
variable{es:List Ev}{D:List Nat}{ds:List bI}{S:Nat->Prop}{r:RD}
structure lX(n i:Nat)(r:RD)(L:LR)(H:List Nat)(ov:Nat):Prop where
 h0:H[0]?=some 0
 Jl:H.Pairwise (· < ·)
 len:H.length=L.made+1
 top:H[L.made]?=some (aF r.K)
 nl:r.ps.length<=L.made
 kept:L.kept=List.range' (L.made-r.ps.length+1) r.ps.length
 mks:r.ps.map iJ.mark=H.drop (L.made-r.ps.length+1)
 dr:H[L.made-r.ps.length]?=some r.dr
 ack:∀j,H[L.ak j]?=some (r.A j)
 ovl:ov<=L.made
 ovd:L.made-r.ps.length<=ov\/∀j,j<n->j≠i->L.made-r.ps.length<=L.ak j
section
variable{n i:Nat}{r:RD}{L:LR}{H:List Nat}{ov:Nat}
def Yk{H:List Nat}{a b x y:Nat}(h:H.Pairwise (· < ·))(f:H[a]?=some x)(g:H[b]?=some y):a<b↔x<y:=by
 obtain⟨d,rfl⟩:=ϑn.1 f;obtain⟨e,rfl⟩:=ϑn.1 g;rcases Nat.lt_trichotomy a b with c|c|c
 .have:=List.pairwise_iff_getElem.1 h a b d e c;omega
 .subst c;omega
 .have:=List.pairwise_iff_getElem.1 h b a e d c;omega
def um{H:List Nat}{a b x y:Nat}(h:H.Pairwise (· < ·))(c:H[a]?=some x)(d:H[b]?=some y):a<=b↔x<=y:=by have:=Yk h d c;omega
def oG{H:List Nat}{a x:Nat}(l:List Nat)(h:H[a]?=some x):(H++l)[a]?=some x:=by rw[ε (ϑn.1 h).1];exact h
def Yl(a m:Nat):(List.range' a (m+1)).tail=List.range' (a+1) m:=by rw[List.range'_succ];(first|done|rfl)
def Ew(a m:Nat):List.range' a m++[a+m]=List.range' a (m+1):=by rw[List.range'_concat];simp
def lX.write(h:lX n i r L H ov){io co lo:Nat}{pv:Value}{fr:Nat}{st:jF}{K:Nat->Nat}{C:Nat->Option Thk.Ch}(B:aF r.K<aF K):∃u,lX n i (r.more io co lo pv fr st K C) (L.write r.room) (H++[aF K]) u/\((L.write r.room).lost=L.lost->u=ov)/\L.lost<=(L.write r.room).lost:=by
 have g:=h.len;have D:=h.nl;have p:L.kept.length=r.ps.length:=by rw[h.kept];simp
 have s:(H++[aF K]).Pairwise (· < ·):=by rw[List.pairwise_append];refine⟨h.Jl,Ω,λy w A x=>?_⟩;rw[ϑe.1 x];obtain⟨k,o,rfl⟩:=ϑd w;have:=(um h.Jl (σ o) h.top).1 V;omega
 have t:(H++[aF K])[L.made+1]?=some (aF K):=by rw[ϋ V,g,Nat.sub_self];(first|done|rfl)
 have m:∀k,k<=L.made+1->(H++[aF K]).drop k=H.drop k++[aF K]:=λk o=>List.drop_append_of_le_length V;by_cases c:r.room<r.ps.length+1
 .have a:L.write r.room=⟨L.made+1,L.lost+1,(L.kept++[L.made+1]).tail,L.ak,L.arm,L.dn⟩:=by unfold LR.write;rw[p,ώ c]
  have d:(r.more io co lo pv fr st K C).ps=(r.ps++[(⟨aF K,fr,st⟩:iJ)]).tail:=by show qU _ _ _=_;unfold qU;rw[ώ c]
  have f:(r.more io co lo pv fr st K C).dr=((r.ps++[(⟨aF K,fr,st⟩:iJ)]).headD ⟨aF K,fr,st⟩).mark:=by show vG _ _ _ _=_;unfold vG;rw[ώ c]
  have b:(r.more io co lo pv fr st K C).ps.length=r.ps.length:=by rw[d];simp
  have q:(r.ps++[(⟨aF K,fr,st⟩:iJ)]).map iJ.mark=(H++[aF K]).drop (L.made-r.ps.length+1):=by rw[ϑF,h.mks,m _ V];(first|done|rfl)
  refine⟨L.made+1-r.ps.length,⟨oG _ h.h0,s,by rw[a];simp[g],by rw[a];exact t,by rw[a,b];show _<=L.made+1;omega, ?_, ?_, ?_,λj=>by rw[a];exact oG _ (h.ack j),by rw[a];show _<=L.made+1;omega,τ (by rw[a,b];exact χ _)⟩,λl=>by rw[a]at l;simp at l,by rw[a];exact Nat.le_succ _⟩
  .rw[a,b];show(L.kept++[L.made+1]).tail=List.range' (L.made+1-r.ps.length+1) r.ps.length;rw[h.kept];have:=Ew (L.made-r.ps.length+1) r.ps.length;rw[(V:L.made-r.ps.length+1+r.ps.length=L.made+1)]at this;rw[this,Yl];congr 1;omega
  .rw[a,d,List.map_tail,q,List.tail_drop];show _=List.drop (L.made+1-(List.tail _).length+1) _;rw[List.length_tail,ρ,List.length_singleton];congr 1;omega
  .rw[a,b,f];show(H++[aF K])[L.made+1-r.ps.length]?=_;rw[(V:L.made+1-r.ps.length=L.made-r.ps.length+1)];have v:((H++[aF K]).drop (L.made-r.ps.length+1)).head? = (H++[aF K])[L.made-r.ps.length+1]?:=by rw[List.head?_drop]
   rw[<- v,<- q];cases r.ps<;>rfl
 .have a:L.write r.room=⟨L.made+1,L.lost,L.kept++[L.made+1],L.ak,L.arm,L.dn⟩:=by unfold LR.write;rw[p,ύ c]
  have d:(r.more io co lo pv fr st K C).ps=r.ps++[(⟨aF K,fr,st⟩:iJ)]:=by show qU _ _ _=_;unfold qU;rw[ύ c]
  have f:(r.more io co lo pv fr st K C).dr=r.dr:=by show vG _ _ _ _=_;unfold vG;rw[ύ c]
  have b:(r.more io co lo pv fr st K C).ps.length=r.ps.length+1:=by rw[d];simp
  have e:L.made+1-(r.ps.length+1)=L.made-r.ps.length:=V
  refine⟨ov,⟨oG _ h.h0,s,by rw[a];simp[g],by rw[a];exact t,by rw[a,b];show _<=L.made+1;omega, ?_, ?_, ?_,λj=>by rw[a];exact oG _ (h.ack j),by rw[a];have:=h.ovl;show _<=L.made+1;omega, ?_⟩,λ_=>rfl,by rw[a];exact χ _⟩
  .rw[a,b];show L.kept++[L.made+1]=List.range' (L.made+1-(r.ps.length+1)+1) (r.ps.length+1);rw[h.kept,e,<- Ew];congr 2;omega
  .rw[a,d,ϑF,h.mks];show _=List.drop (L.made+1-(r.ps++[_]).length+1) _;rw[ρ,List.length_singleton,e,m _ V];rfl
  .rw[a,b,f];show(H++[aF K])[L.made+1-(r.ps.length+1)]?=_;rw[e];exact oG _ h.dr
  .rw[a,b];show L.made+1-(r.ps.length+1)<=ov\/∀j,j<n->j≠i->L.made+1-(r.ps.length+1)<=L.ak j;rw[e];exact h.ovd
def lX.Gl(h:lX n i r L H ov)(j:Nat){m x:Nat}(b:H[m]?=some x):lX n i (r.ack j x) (L.Sm j m) H ov:=by
 refine⟨h.h0,h.Jl,h.len,h.top,h.nl,h.kept,h.mks,h.dr,λk=>?_,h.ovl,h.ovd.imp id (λc k d f=>ς (c k d f) ?_)⟩
 .show H[aX L.ak j (max (L.ak j) m) k]?=some (if k=j then max (r.A j) x else r.A k);by_cases e:k=j
  .rw[e,aN,ώ rfl];have:=um h.Jl (h.ack j) b;by_cases a:L.ak j<=m
   .rw[Nat.max_eq_right a,Nat.max_eq_right (this.1 a)];exact b
   .have l:¬r.A j<=x:=λg=>a (this.2 g);rw[Nat.max_eq_left V,Nat.max_eq_left V];exact h.ack j
  .rw[aS _ _ e,ύ e];exact h.ack k
 .show L.ak k<=aX L.ak j (max (L.ak j) m) k;by_cases e:k=j
  .rw[e,aN];omega
  .rw[aS _ _ e];exact χ _
def GY{n i m:Nat}{b:Nat->Nat}:FZ n i b m=true↔∀j,j<n->j≠i->m<=b j:=by unfold FZ;simp only[List.all_eq_true,ϑp,ϑw,ϑt,ϑs];exact⟨λh j a c=>(h j a).resolve_left c,λh j a=>(Classical.em (j=i)).imp id (h j a)⟩
def Nz{n i:Nat}{g:Nat->Nat}{H:List Nat}{A:Nat->Nat}{c:List Nat}(r:H.Pairwise (· < ·))(m:∀j,H[g j]?=some (A j))(l:∀j,j∈c↔j<n/\j≠i):∀(b:List iJ)(a k:Nat),b.map iJ.mark=H.drop (a+1)->H[a]?=some k->(List.range' (a+1) b.length).filter (λs=>!FZ n i g s)=List.range' (a+(b.length-(gG c A b).length)+1) (gG c A b).length/\(gG c A b).length<=b.length/\(gG c A b).map iJ.mark=H.drop (a+(b.length-(gG c A b).length)+1)/\H[a+(b.length-(gG c A b).length)]?=some (nH c A k b)/\((gG c A b).length=b.length\/∀j,j<n->j≠i->a+(b.length-(gG c A b).length)<=g j)
 | [],a,k,h1,h2=>⟨rfl,χ _,h1,h2,τ rfl⟩
 | p::b,a,k,h1,h2=>by
  have q:H[a+1]?=some p.mark:=by have:=congrArg List.head? h1;rw[List.head?_drop]at this;exact this.symm
  have u:b.map iJ.mark=H.drop (a+1+1):=by have:=congrArg List.tail h1;rw[List.tail_drop]at this;exact this
  have o:(∀j∈c,p.mark<=A j)↔∀j,j<n->j≠i->a+1<=g j:=⟨λh j f d=>(um r q (m j)).2 (h j ((l j).2 ⟨f,d⟩)),λh j f=>(um r q (m j)).1 (h j ((l j).1 f).1 ((l j).1 f).2)⟩;unfold gG nH;by_cases e:∀j∈c,p.mark<=A j
  .rw[ώ ((uT c A p.mark).2 e),ώ ((uT c A p.mark).2 e)];obtain⟨y,E,B,C,D⟩:=Nz r m l b (a+1) p.mark u q;have t:a+((p::b).length-(gG c A b).length)=a+1+(b.length-(gG c A b).length):=by rw[δ];omega
   rw[t];have v:=GY.2 (o.1 e);refine⟨?_,by rw[δ];omega,B,C,υ ?_⟩
   .rw[δ,List.range'_succ,List.filter_cons_of_neg (by rw[v];simp)];exact y
   .rcases D with d|d
    .rw[d,Nat.sub_self];exact o.1 e
    .exact d
  .rw[ύ (λh=>e ((uT c A p.mark).1 h)),ύ (λh=>e ((uT c A p.mark).1 h))];rw[Nat.sub_self,Nat.add_zero];refine⟨?_,χ _,h1,h2,τ rfl⟩;rw[List.filter_eq_self];intro s w;have x:=List.mem_range'_1.1 w;have:¬FZ n i g s=true:=λh=>e (o.2 (λj f d=>ς x.1 (GY.1 h j f d)));simpa using this
def lX.Ql(h:lX n i r L H ov)(k:∀j,j∈r.nb↔j<n/\j≠i){r':RD}(l:Jt r r'):lX n i r' (L.tick n i) H ov:=by
 obtain⟨o,rfl⟩:=l;have g:=h.nl;obtain⟨b,m,c,d,e⟩:=Nz h.Jl h.ack k r.ps (L.made-r.ps.length) r.dr h.mks h.dr;have f:L.made-r.ps.length+(r.ps.length-(gG r.nb r.A r.ps).length)=L.made-(gG r.nb r.A r.ps).length:=V
 rw[f]at b c d e;refine⟨h.h0,h.Jl,h.len,h.top,ς m g, ?_,c,d,h.ack,h.ovl, ?_⟩
 .show L.kept.filter _=_;rw[h.kept];exact b
 .rcases e with a|a
  .show L.made-(gG r.nb r.A r.ps).length<=ov\/∀j,j<n->j≠i->L.made-(gG r.nb r.A r.ps).length<=L.ak j;rw[a];exact h.ovd
  .exact υ a
def lX.same(h:lX n i r L H ov){r':RD}{L':LR}(d:r'.K=r.K)(b:r'.ps=r.ps)(e:r'.dr=r.dr)(f:r'.A=r.A)(a:L'.made=L.made)(g:L'.kept=L.kept)(c:L'.ak=L.ak):lX n i r' L' H ov :=
 ⟨h.h0,h.Jl,by rw[a];exact h.len,by rw[a,d];exact h.top,by rw[a,b];exact h.nl,by rw[a,g,b];exact h.kept,by rw[a,b];exact h.mks,by rw[a,b,e];exact h.dr,by rw[c,f];exact h.ack,by rw[a];exact h.ovl,by rw[a,b,c];exact h.ovd⟩
def lX.lost(h:lX n i r L H ov){r':RD}{L':LR}(b:r'.ps=[])(k:r'.dr=aF r'.K)(l:r'.A=λ_=>0)(p:L'.kept=[])(q:L'.ak=λ_=>0)(o:(L'.made=L.made/\aF r'.K=aF r.K)\/(L'.made=L.made+1/\aF r.K<aF r'.K)):∃a,lX n i r' L' a L'.made/\∀(m:Nat)x,H[m]?=some x->a[m]?=some x:=by
 have v:=h.len;have key:∀a:List Nat,a[0]?=some 0->a.Pairwise (· < ·)->a.length=L'.made+1->a[L'.made]?=some (aF r'.K)->lX n i r' L' a L'.made:=λa d g j e =>⟨d,g,j,e,by rw[b];exact Nat.zero_le _,by rw[p,b];rfl,by rw[b,List.drop_of_length_le Θ];rfl,by rw[b,k];exact e,λA=>by rw[q,l];exact d,χ _,τ V⟩;rcases o with⟨c,f⟩|⟨c,f⟩
 .exact⟨H,key H h.h0 h.Jl V (by rw[c,f];exact h.top),λ_ _ h=>h⟩
 .refine⟨H++[aF r'.K],key _ (oG _ h.h0) ?_ Θ (by rw[c,ϋ V,v,Nat.sub_self];rfl),λm x=>oG _⟩;rw[List.pairwise_append];refine⟨h.Jl,Ω,λw s y t=>?_⟩;rw[ϑe.1 t];obtain⟨B,u,rfl⟩:=ϑd s;have:=(um h.Jl (σ u) h.top).1 V;omega
end
def GZ{b:Type} [DecidableEq b] (f:b->Thk.Bs):∀{l m:List b},l.Nodup->(∀x∈l,x∈m)->(l.flatMap f).length<=(m.flatMap f).length
 | [],_,_,_=>Ω
 | x::l,m,hn,hm=>by
  obtain⟨m1,m2,rfl⟩:=List.append_of_mem (hm x Ω);have c:=List.nodup_cons.1 hn;have h:=GZ f (l:=l) (m:=m1++m2) c.2 (λy d=>by
   have a:=hm y (by simp[d]);have g:y≠x:=λe=>c.1 (e▸d);simp only[θ,ϑL]at a⊢;rcases a with a|a|a
   .exact τ a
   .exact absurd a g
   .exact υ a)
  simp only[List.flatMap_cons,List.flatMap_append,ρ]at h⊢;omega
def Ym{c:Thk.Ch}(h:P9 c):(lW c).length<=29:=by obtain⟨a,b,_⟩:=Thk.xM _ _ h.2.1;have:=(Ep h.2.1 h.2.2).2;omega
def Qq(a m:Nat)(rs:List (Nat×Nat))(b:List (Nat×Thk.Bs)):(bM (jI a m rs b)).length=4+((aZ 0).length+(aZ a).length+(aZ m).length+((aZ rs.length).length+(rs.flatMap encR).length+(aZ b.length).length+(b.flatMap encI).length)):=by unfold jI encS;rw[gJ];simp only[ρ];omega
section
variable{S:Nat->Prop}{C:Nat->Option Thk.Ch}{rs rs':List (Nat×Nat)}{its kP:List (Nat×Thk.Bs)}
def xw(rs:List (Nat×Nat)):(rs.flatMap encR).length<=rs.length*6:=by refine lM encR 6 rs (λr a=>?_);unfold encR ku;have:=aO (who r.1);have:=aO (nth r.1);have:=aO r.2;rw[ρ,ρ];omega
def uq(h:dW S C rs its)(a:jT S C):(its.flatMap encI).length<=its.length*35:=by refine lM encI 35 its (λx d=>?_);unfold encI ku;have:=aO (who x.1);have:=aO (nth x.1);have:=aO x.2.length;obtain⟨c,b,e⟩:=h.tx x d;have:=Ym (a.all _ c b);rw[<- e]at this;simp only[ρ];omega
def Ey(h:dW S C rs its)(b:dW S C rs' kP):(its.flatMap encI).length<=(kP.flatMap encI).length:=by
 have j:its.Nodup:=(List.pairwise_map.1 h.nd).imp (λh e=>h (congrArg _ e));refine GZ encI j (λx k=>?_);obtain⟨l,f,e⟩:=h.tx x k;have a:jH kP kP.length x.1≠none:=by rw[b.it];exact dO.2 (by rw[f];simp)
 unfold jH at a;rw[ϑm]at a;cases hf:kP.reverse.find? (λy=>y.1==x.1) with
 | none=>rw[hf]at a;exact absurd rfl a
 | some y =>
  have c:y.1=x.1:=by simpa using List.find?_some hf
  have d:=List.mem_reverse.1 (List.mem_of_find?_eq_some hf);obtain⟨m,g,i⟩:=b.tx y d;rw[c,f]at g;cases g
  have:y=x:=Prod.ext c (by rw[e,i]);rw[<- this];exact d
end
def Ez(a b:Nat->Bool)(h:∀k,b k=true->a k=true):∀l:List Nat,(l.filter λk=>a k&&!b k).length+(l.filter b).length=(l.filter a).length
 | []=>rfl
 | x::l=>by
  have d:=Ez a b h l;have c:=h x;simp only[List.filter_cons];cases hb:b x
  .cases ha:a x<;>simp<;>omega
  .rw[c hb];simp;omega
def Rz(p q:Nat->Bool):∀l:List Nat,(l.filter λk=>p k||q k).length<=(l.filter p).length+(l.filter q).length
 | []=>Ω
 | x::l=>by have a:=Rz p q l;simp only[List.filter_cons];cases p x<;>cases q x<;>simp<;>omega
def JA{ns:List Nat}(f:ns.Nodup){E:Nat}{q:Nat->Bool}(g:∀d∈ns,∃k,k<E/\D[k]?=some d/\q k=true):ns.length<=((List.range E).filter q).length:=by have:=lN f (m:=((List.range E).filter q).map λk=>D.getD k 0) (λd e=>by obtain⟨k,a,b,c⟩:=g d e;refine ι.2 ⟨k,ϑf.2 ⟨ϑp.2 a,c⟩, ?_⟩;rw[ξ,b];rfl);rwa [ϑh]at this
def Yn(es:List Ev)(a b:List Bool):oU (aH es a es.length) (aH es b es.length)=((List.range es.length).filter λk=>alive es a k&&!alive es b k).length:=by
 unfold oU aH;rw[List.filter_filter];congr 1;refine List.filter_congr λk c=>?_;have:((List.range es.length).filter (alive es b)).contains k=alive es b k:=by rw[Bool.eq_iff_iff];simp only[List.contains_iff_mem,ϑf,c,ϑM]
 rw[this,Bool.and_comm]
def eU.at{P:Hs->Prop}{i:Nat}{o:Nat->Hs}:∀{a:List iJ}{s t:Hs},eU P i o s a t->P s->∀k(h:k<a.length),∃c b,P c/\Bh P i o a[k] c b/\(cnt s.kn::a.map iJ.mark)[k]?=some (cnt c.kn)
 | [],_,_,_,_,k,h=>by simp at h
 | p::a,s,t,⟨b,h1,h2⟩,hs,0,_=>⟨s,b,hs,h1,rfl⟩
 | p::a,s,t,⟨b,h1,h2⟩,hs,k+1,h=>by obtain⟨e,j,f,g,d⟩:=eU.at h2 h1.pb k (by simpa using h);refine⟨e,j,f,g, ?_⟩;rw[<- h1.mark]at d;exact d
section
variable{n i:Nat}{r:RD}{L:LR}{H:List Nat}{ov:Nat}
def lX.ahead(h:lX n i r L H ov){j k x:Nat}(b:k<r.ps.length)(d:r.A j<r.ps[k].mark)(a:(r.dr::r.ps.map iJ.mark)[k]?=some x):r.A j<=x:=by
 have e:r.dr::r.ps.map iJ.mark=H.drop (L.made-r.ps.length):=by rw[h.mks];obtain⟨c,e⟩:=ϑn.1 h.dr;rw[<- e,List.drop_eq_getElem_cons c]
 rw[e,List.getElem?_drop]at a;have f:H[L.made-r.ps.length+1+k]?=some r.ps[k].mark:=by rw[<- List.getElem?_drop,<- h.mks];simp[b]
 have g:=(Yk h.Jl (h.ack j) f).2 d;exact(um h.Jl (h.ack j) a).1 V
end
section
variable{es:List Ev}{D:List Nat}{n i:Nat}{P:Hs->Prop}{o:Nat->Hs}{cur:Hs}{r:RD}
def G5(h:iH es D i P o cur r)(m:uX es D n){y a b:Hs}(E:P y)(t:P a)(p:P b)(G:a.le b)(R:cnt y.kn<=cnt a.kn){d:Nat}(l:1<=nth d)(f:newH a b d):∃k,k<es.length/\D[k]?=some d/\((cur.kn.getD k false&&!y.kn.getD k false)=true\/((alive es y.kn k&&!alive es cur.kn k)=true/\b.C d=none)):=by
 have T:=h.ok y E;have q:=h.ok a t;have g:=h.ok b p;have F:=h.ok cur h.now;obtain⟨k,A,rfl⟩:=ϑd (g.mem l f.1);have c:=σ A;have B:k<es.length:=by rw[<- m.len];exact A
 have s:=h.ord y a E t R;have L:=(g.vec k _ c).2 f.1;have M:=(h.top b p) k L;refine⟨k,B,c, ?_⟩;cases hyk:y.kn.getD k false with
 | false=>exact τ (by rw[M];rfl)
 | true =>
  have H:=s k hyk;have x:=(q.vec k _ c).1 H;have C:¬(b.C D[k]=none↔a.C D[k]=none):=λe=>f.2 ⟨x,e⟩;have Q:=Hs.sle q g m G;have u:a.C D[k]≠none:=λe=>C ⟨λ_=>e,λ_=>(Q.g D[k] ⟨⟨l,x⟩,e⟩).2⟩;have v:=ϑc λe=>C ⟨λj=>absurd j e,λj=>absurd j u⟩;have w:cur.C D[k]=none:=((Hs.sle g F m (h.top b p)).g D[k] ⟨⟨l,f.1⟩,v⟩).2;have K:alive es a.kn k=true:=ϑc λe=>u (by rw[q.c1 k _ c,ύ e]);have S:=qE s hyk K;have N:¬alive es cur.kn k=true:=λe=>by rw[F.c1 k _ c,ώ e,σ B]at w;cases w
  exact υ ⟨by rw[S];simpa using N,v⟩
end
def G6:∀{rs rs':List (Nat×Nat)},(∀r∈rs,1<=r.2)->(∀r∈rs',1<=r.2)->(∀j(h:j+1<rs.length),rs[j].1+rs[j].2≠rs[j+1].1)->(∀j(h:j+1<rs'.length),rs'[j].1+rs'[j].2≠rs'[j+1].1)->bP rs=bP rs'->rs=rs'
 | [],[],_,_,_,_,_=>rfl
 | [],(d,m)::t,_,h',_,_,e=>by have:=h' (d,m) Ω;have i:=congrArg List.length e;simp[bP,iP]at i;omega
 | (d,m)::t,[],h,_,_,_,e=>by have:=h (d,m) Ω;have i:=congrArg List.length e;simp[bP,iP]at i;omega
 | (d,m)::t,(d',m')::c,h,h',g,g',e=>by
  have w:1<=m:=h (d,m) Ω;have x:1<=m':=h' (d',m') Ω;have o:∀(d m:Nat)(t:List (Nat×Nat)),bP ((d,m)::t)=iP (d,m)++bP t:=λ_ _ _=>rfl;rw[o,o]at e;have f:∀(d m k:Nat)(t:List (Nat×Nat)),k<m->(iP (d,m)++bP t)[k]?=some (d+k):=λd m k t q=>by rw[ε (by simp[iP];exact q)];simp[iP,q]
  have u:d=d':=by have a:=f d m 0 t w;rw[e,f d' m' 0 c x]at a;simp at a;omega
  subst u;have key:∀{m m':Nat}{t c:List (Nat×Nat)},(∀r∈t,1<=r.2)->(∀j(h:j+1<((d,m)::t).length),((d,m)::t)[j].1+((d,m)::t)[j].2≠((d,m)::t)[j+1].1)->iP (d,m)++bP t=iP (d,m')++bP c->¬m<m':=λ{m m' t c}ht g e hlt=>by
   have a:=f d m' m c hlt;rw[<- e,ϋ (by simp[iP])]at a;have v:(iP (d,m)).length=m:=by simp[iP]
   rw[v,Nat.sub_self]at a;cases t with
   | nil=>simp[bP]at a
   | cons p t =>
    have A:=ht p Ω;have s:(bP (p::t))[0]?=some p.1:=f p.1 p.2 0 t A;rw[s]at a;have n:=g 0 Ω;simp only[List.getElem_cons_zero,List.getElem_cons_succ]at n;injection a with a
    exact n a.symm
  have B:=key (λr b=>h r (by simp[b])) g e;have C:=key (λr b=>h' r (by simp[b])) g' e.symm;have y:m=m':=V
  subst y;rw[G6 (rs:=t) (rs':=c) (λr b=>h r (by simp[b])) (λr b=>h' r (by simp[b])) (λj l=>g (j+1) (by simpa using l)) (λj l=>g' (j+1) (by simpa using l)) (List.append_cancel_left e)]
def aa7{l m:List Nat}(h:l.Pairwise (· < ·))(a:m.Pairwise (· < ·))(d:∀x,x∈l↔x∈m):l=m :=
 List.Perm.eq_of_pairwise (le:=(· < ·)) (λf g _ _ b c=>absurd c (Nat.lt_asymm b)) h a ((List.perm_ext_iff_of_nodup (h.imp (λh e=>V)) (a.imp (λh e=>V))).2 d)
def dW.runs{C c:Nat->Option Thk.Ch}{rs rs':List (Nat×Nat)}{d kP:List (Nat×Thk.Bs)}(h:dW S C rs d)(a:dW S c rs' kP):rs=rs' :=
 G6 (λr b=>(h.ro r b).2.1) (λr b=>(a.ro r b).2.1) h.gap a.gap (aa7 h.Jl a.Jl (λx=>by rw[h.fl,a.fl]))
def RF{s s':ByteArray}{C:Nat->Option Thk.Ch}(h:wZ r s S C)(i:wZ r s' S C):s.size=s'.size:=by
 obtain⟨_,rs,c,e,a⟩:=h;obtain⟨_,rs',kP,j,b⟩:=i;have g:=a.runs b;obtain⟨G,q,t,u⟩:=a.il;obtain⟨H,v,w,A⟩:=b.il;have F:=Ey a b;have E:=Ey b a;have n:c.length=kP.length:=by
  have key:∀{rs rs':List (Nat×Nat)}{c kP:List (Nat×Thk.Bs)},dW S C rs c->dW S C rs' kP->c.length<=kP.length:=λ{rs rs' c kP}a b=>by
   have:=lN a.nd (m:=kP.map Prod.fst) (λD l=>by
    obtain⟨x,o,rfl⟩:=ι.1 l;obtain⟨B,k,_⟩:=a.tx x o;have d:jH kP kP.length x.1≠none:=by rw[b.it];exact dO.2 (by rw[k];simp)
    unfold jH at d;rw[ϑm]at d;cases hf:kP.reverse.find? (λy=>y.1==x.1) with
    | none=>rw[hf]at d;exact absurd rfl d
    | some y =>
     have e:y.1=x.1:=by simpa using List.find?_some hf
     exact ι.2 ⟨y,List.mem_reverse.1 (List.mem_of_find?_eq_some hf),e⟩)
   simpa using this
  exact Nat.le_antisymm (key a b) (key b a)
 have f:=aB s;have p:=aB s';rw[e,Qq]at f;rw[j,Qq]at p;rw[g,n]at f;omega
section
variable{es:List Ev}{D:List Nat}{n i:Nat}{P:Hs->Prop}{o:Nat->Hs}{cur:Hs}{r:RD}{L:LR}{H:List Nat}{ov:Nat}
def G7{cur:Hs}(d:cur.Ok es D)(h:uX es D n){rs:List (Nat×Nat)}{k:List (Nat×Thk.Bs)}(a:dW (fst cur.K) cur.C rs k):rs.length<=6/\k.length<=(aH es cur.kn es.length).length:=by
 refine⟨?_, ?_⟩
 .obtain⟨g1,g2⟩:=starts a.Jl (λr u=>(a.ro r u).2.1) a.gap;have:=lN g1 (m:=(List.range 6).map λo=>o*512+1) (λg b=>by
   obtain⟨q,c,rfl⟩:=ι.1 b;have t:q.1∈bP rs:=List.mem_flatMap.2 ⟨q,c,ι.2 ⟨0,ϑp.2 (a.ro q c).2.1,rfl⟩⟩;obtain⟨m1,m2⟩:=(a.fl _).1 t;have v:nth q.1=1:=ϑc λw=>by
    refine g2 q c (by unfold nth at m1;omega) ((a.fl _).2 ?_);unfold fst nth who at *;have e:(q.1-1) / 512=q.1 / 512:=V
    exact⟨V,by rw[e];omega⟩
   have x:=d.w6 m1 m2;refine ι.2 ⟨who q.1,ϑp.2 V, ?_⟩;unfold nth who at *;omega)
  simpa using this
 .obtain⟨y,p,f,s⟩:=a.il;rw[s];refine JA (D:=D) p λg b=>?_;obtain⟨l,i,rfl⟩:=ϑd (d.alv h (f g b)).1;have j:=σ i;refine⟨l,by rw[<- h.len];exact i,j,ϑc λe=>f _ b ?_⟩;rw[d.c1 l _ j,ύ e]
def Yo(j:iH es D i P o cur r)(m:uX es D n)(hT:lX n i r L H ov){l:Nat}{S:Nat->Prop}{C:Nat->Option Thk.Ch}(f:MP r l S C){rs:List (Nat×Nat)}{Q:List (Nat×Thk.Bs)}(g:dW S C rs Q){y:Hs}(N:P y)(a5:cnt y.kn<=r.A l):rs.length<=((List.range es.length).filter λk=>cur.kn.getD k false&&!y.kn.getD k false).length+((List.range es.length).filter λk=>alive es y.kn k&&!alive es cur.kn k).length/\Q.length<=((List.range es.length).filter λk=>cur.kn.getD k false&&!y.kn.getD k false).length:=by
 obtain⟨_,rfl,p1,_⟩:=f;obtain⟨s0,d1,d2,d3⟩:=j.dr;have key:∀{s:jF},s∈dJ l (r.A l) r.ps->∃b c,P b/\P c/\b.le c/\cnt y.kn<=cnt b.kn/\s.S=newH b c/\s.It=aU (AO b c):=λ{s}f=>by obtain⟨p,hp,rfl,u,_⟩:=lq f;obtain⟨k,F,rfl⟩:=ϑd hp;obtain⟨b,c,h,e,M⟩:=d3.at d1 k F;rw[d2]at M;exact⟨b,c,h,e.pb,e.le,ς a5 (hT.ahead F u M),e.s,e.it⟩
 refine⟨?_, ?_⟩
 .obtain⟨g1,_⟩:=starts g.Jl (λr hr=>(g.ro r hr).2.1) g.gap;have:=JA (D:=D) (E:=es.length) (q:=λk=>(cur.kn.getD k false&&!y.kn.getD k false)||(alive es y.kn k&&!alive es cur.kn k)) g1 (λd t=>by
   obtain⟨q,G,rfl⟩:=ι.1 t;have u:q.1∈bP rs:=List.mem_flatMap.2 ⟨q,G,ι.2 ⟨0,ϑp.2 (g.ro q G).2.1,rfl⟩⟩;obtain⟨m1,s,f,A⟩:=(g.fl _).1 u;obtain⟨b,c,h,e,a6,v,X,_⟩:=key f;rw[X]at A;obtain⟨k,w,x,a⟩:=G5 j m N h e a6 v m1 A;refine⟨k,w,x, ?_⟩;rcases a with a|⟨a,_⟩
   .simp only[a,Bool.true_or]
   .simp only[a,Bool.or_true])
  rw[ϑh]at this;exact ς this (Rz _ _ _)
 .obtain⟨ns,R,T,U⟩:=g.il;rw[U];refine JA (D:=D) R λd t=>?_;obtain⟨W,hc⟩:=Option.ne_none_iff_exists'.1 (T d t);obtain⟨⟨s,f,K⟩,_⟩:=p1 d (sK W) (by unfold aU;rw[hc];rfl);obtain⟨b,c,h,e,a6,v,_,Y⟩:=key f;rw[Y]at K;obtain⟨c',a0,_⟩:=oK K;obtain⟨a4,B⟩:=xu a0;have Z:=((j.ok c e).alv m (d:=d) (by rw[B];simp)).2.1;obtain⟨k,w,x,a⟩:=G5 j m N h e a6 v Z a4;refine⟨k,w,x, ?_⟩;rcases a with a|⟨_,a⟩
  .exact a
  .rw[B]at a;cases a
def Yp(h:iH es D i P o cur r)(u:uX es D n)(hn:n<=6)(F:lX n i r L H ov){j:Nat}{b:ByteArray}(G:XY b r j):b.size<=200+80*(aH es cur.kn es.length).length/\∀y,P y->cnt y.kn<=r.A j->r.dr<=r.A j->b.size<=80+80*(cnt cur.kn-cnt y.kn)+8*oU (aH es y.kn es.length) (aH es cur.kn es.length):=by
 obtain⟨S,C,rs,c,a,f,m,K,_⟩:=G;have k:wZ r b S C:=⟨f,rs,c,m,K⟩;have w:=h.ok cur h.now;have q0:=aO 0;have q1:=aO r.a;have q2:=aO (aF r.K);have A:∀{s:ByteArray}{rs:List (Nat×Nat)}{c:List (Nat×Thk.Bs)},ay s=bM (jI r.a (aF r.K) rs c)->s.size<=14+(rs.flatMap encR).length+(c.flatMap encI).length/\9+(c.flatMap encI).length<=s.size:=λ{s rs c}a=>by have X:=aB s;rw[a,Qq]at X;have:=aO rs.length;have:=aO c.length;omega
 have B:∀{s:ByteArray},wZ r s (fst r.K) r.C->s.size<=50+35*(aH es cur.kn es.length).length:=λ{s}a=>by obtain⟨f,rs,c,l,a0⟩:=a;obtain⟨Q,R⟩:=G7 w u (by rw[h.cK,h.cC];exact a0);have:=(A l).1;have:=xw rs;have:=uq a0 f;omega
 have x:∀{s:ByteArray}{S:Nat->Prop}{C:Nat->Option Thk.Ch},MP r j S C->wZ r s S C->∀y,P y->cnt y.kn<=r.A j->s.size<=14+41*(cnt cur.kn-cnt y.kn)+6*oU (aH es y.kn es.length) (aH es cur.kn es.length):=λ{s S C}a m y d g=>by obtain⟨f,rs,c,l,a0⟩:=m;obtain⟨Q,R⟩:=Yo h u F a a0 d g;have T:=h.ok y d;have N:=Ez (λp=>cur.kn.getD p false) (λp=>y.kn.getD p false) (h.top y d) (List.range es.length);rw[kU _ _ T.len,kU _ _ w.len]at N;rw[Yn];have:=(A l).1;have:=xw rs;have:=uq a0 f;omega
 rcases a with⟨rfl,rfl,M⟩|⟨a,U,W,q,t,E⟩
 .refine⟨by have:=B k;omega,λy d g v=>?_⟩;obtain⟨Z,Y,U,W,q,t,E,z4⟩:=M v;have:=x q t y d g;have:=RF k E;omega
 .have e:=RF k q;exact⟨by have:=B t;omega,λy d g v=>by have:=x a k y d g;omega⟩
end
def FrL(es:List Ev)(rs:Nat->LR)(H:Nat->List Nat)(ov:Nat->Nat)(f:lH)(x:LF):Prop :=
 f.bytes.size<=x.most/\(f.ack=0->(H f.src)[x.made]?=some (cnt f.known)/\x.lost<=(rs f.src).lost/\(x.lost=(rs f.src).lost->ov f.src<=x.made)/\(x.had=true->x.lost=(rs f.src).lost->x.made<=(rs f.src).ak f.dst)/\x.al=aH es f.known es.length)
structure xA(s:Sl)(ds:List bI)(H:Nat->List Nat)(ov:Nat->Nat):Prop where
 room:∀j(h:j<ds.length),ds[j].room=s.room
 rep:∀j(h:j<ds.length),lX ds.length j ds[j] (s.rs j) (H j) (ov j)
 ln:s.ls.length=s.fs.length
 fr:∀(k:Nat)f x,s.fs[k]?=some f->s.ls[k]?=some x->FrL s.es s.rs H ov f x
section
variable{s:Sl}{ds:List bI}{H:Nat->List Nat}{ov:Nat->Nat}
def xA.turn(h:xA s ds H ov){k:Nat}(F:k<ds.length){r':RD}{L':LR}{a:List Nat}{b:Nat}(C:lX ds.length k r' L' a b)(L:r'.room=ds[k].room)(B:∀(m:Nat)x,(H k)[m]?=some x->a[m]?=some x)(G:(s.rs k).lost<=L'.lost)(K:L'.lost=(s.rs k).lost->b=ov k)(D:L'.lost=(s.rs k).lost->∀j,(s.rs k).ak j<=L'.ak j){es':List Ev}{Eu:List (List Bool)}{A:Nat}(E:∀f∈s.fs,f.ack=0->aH es' f.known es'.length=aH s.es f.known s.es.length):xA ⟨⟨es',Eu,s.fs⟩,s.room,aX s.rs k L',s.ls,A⟩ (ds.set k r') (aX H k a) (aX ov k b):=by
 refine⟨λj l=>?_,λj l=>?_,h.ln,λm f x r M=>?_⟩
 .have n:j<ds.length:=by simpa using l
  rw[ϑi];by_cases e:k=j
  .subst e;rw[ώ rfl,L];exact h.room k F
  .rw[ύ e];exact h.room j n
 .have n:j<ds.length:=by simpa using l
  have key:lX ds.length j (ds.set k r')[j] (aX s.rs k L' j) (aX H k a j) (aX ov k b j):=by
   rw[ϑi];by_cases e:k=j
   .subst e;rw[ώ rfl,aN,aN,aN];exact C
   .rw[ύ e,aS _ _ (Ne.symm e),aS _ _ (Ne.symm e),aS _ _ (Ne.symm e)];exact h.rep j n
  have w:(ds.set k r').length=ds.length:=List.length_set;rw[<- w]at key;exact key
 .obtain⟨u,v⟩:=h.fr m f x r M;refine⟨u,λq=>?_⟩;obtain⟨c,d,g,i,o⟩:=v q;have t:=E f (ϑC r) q;show(aX H k a f.src)[x.made]?=_/\x.lost<=(aX s.rs k L' f.src).lost/\(x.lost=(aX s.rs k L' f.src).lost->aX ov k b f.src<=x.made)/\(x.had=true->x.lost=(aX s.rs k L' f.src).lost->x.made<=(aX s.rs k L' f.src).ak f.dst)/\x.al=aH es' f.known es'.length;by_cases e:f.src=k
  .rw[e]at c d g i;rw[e,aN,aN,aN];refine⟨B _ _ c,ς d G,λp=>?_,λp N=>ς (i p V) (D V _),by rw[t];exact o⟩;have y:x.lost=(s.rs k).lost:=V
   rw[K V];exact g y
  .rw[aS _ _ e,aS _ _ e,aS _ _ e];exact⟨c,d,g,i,by rw[t];exact o⟩
def xA.one(h:xA s ds H ov){Eu:List (List Bool)}{f:lH}{x:LF}(j:FrL s.es s.rs H ov f x):xA ⟨⟨s.es,Eu,s.fs++[f]⟩,s.room,s.rs,s.ls++[x],s.acc⟩ ds H ov:=by
 have l:=h.ln;refine⟨h.room,h.rep,by simp[l],λm i y k p=>?_⟩;obtain⟨n,e⟩:=ϑn.1 (show(s.fs++[f])[m]?=some i from k);obtain⟨o,g⟩:=ϑn.1 (show(s.ls++[x])[m]?=some y from p);rcases uY s.fs f m n with⟨c,a⟩|⟨c,a⟩<;>rcases uY s.ls x m o with⟨d,b⟩|⟨d,b⟩
 .rw[<- e,a,<- g,b];exact h.fr m _ _ (σ c) (σ d)
 .omega
 .omega
 .rw[<- e,a,<- g,b];exact j
def xA.hadd(h:xA s ds H ov)(k:Nat)(o:∀f x,s.fs[k]?=some f->s.ls[k]?=some x->f.ack=0->x.made<=(s.rs f.src).ak f.dst):xA ⟨s.1,s.room,s.rs,Cb s.ls k,s.acc⟩ ds H ov:=by
 refine⟨h.room,h.rep,by show(Cb s.ls k).length=_;unfold Cb;rw[List.length_modify];exact h.ln,λm f x g p=>?_⟩;have a:(Cb s.ls k)[m]?=some x:=p;unfold Cb at a;rw[List.getElem?_modify]at a;cases hl:s.ls[m]? with
 | none=>rw[hl]at a;simp at a
 | some y =>
  rw[hl]at a;obtain⟨b,c⟩:=h.fr m f y g hl;by_cases e:k=m
  .subst e;simp at a;subst a;refine⟨b,λd=>?_⟩;obtain⟨i,j,l,q,n⟩:=c d;exact⟨i,j,l,λ_ _=>o f y g hl d,n⟩
  .simp[e]at a;subst a;exact⟨b,c⟩
def NC{a:List LF}{k:Nat}{x:LF}(h:a[k]?=some x):madeOf a k=x.made:=by unfold madeOf;rw[h];(first|done|rfl)
def LR.Yq(a:Nat)(L:LR):(L.write a).ak=L.ak:=by unfold LR.write;split<;>rfl
def xA.write(h:xA s ds H ov){k:Nat}(a:k<ds.length){io co lo:Nat}{pv:Value}{fr:Nat}{st:jF}{K:Nat->Nat}{C:Nat->Option Thk.Ch}(i:aF ds[k].K<aF K){es':List Ev}{Eu:List (List Bool)}{A:Nat}(g:∀f∈s.fs,f.ack=0->aH es' f.known es'.length=aH s.es f.known s.es.length):∃e ov',xA ⟨⟨es',Eu,s.fs⟩,s.room,aX s.rs k ((s.rs k).write s.room),s.ls,A⟩ (ds.set k (ds[k].more io co lo pv fr st K C)) e ov':=by obtain⟨l,b,c,d⟩:=(h.rep k a).write (io:=io) (co:=co) (lo:=lo) (pv:=pv) (fr:=fr) (st:=st) (K:=K) (C:=C) i;rw[h.room k a]at b c d;exact⟨_,_,h.turn a b rfl (λm x=>oG _) d c (λ_ j=>by rw[LR.Yq];exact χ _) g⟩
end
def Qr{e:Ev}{a:List Bool}(h:a.length<=es.length):aH (es++[e]) a (es++[e]).length=aH es a es.length:=by
 unfold aH;rw[ρ,List.length_singleton,List.range_succ,ϑH];have b:alive (es++[e]) a es.length=false:=by rw[Bool.eq_false_iff];intro c;have:=((bZ _ _ _).1 c).2.1;rw[iT h]at this;cases this
 rw[List.filter_cons_of_neg (by rw[b];simp),List.filter_nil,List.append_nil];exact List.filter_congr λk d=>GN h (ϑp.1 d)
section
variable{w w':World}{x:Nat}{S:Nat->Prop}{s:Sl}{A:Nat}{pd:Nat->Nat}{q cap:Nat}{fv:Value}{ds:List bI}{bs:List (Nat×ByteArray)}{D:List Nat}{P:Nat->Hs->Prop}{H:Nat->List Nat}{ov:Nat->Nat}
def cZ.knew(h:cZ w x S s.1 A pd q cap fv ds bs D P){k:Nat}{f:lH}(d:s.fs[k]?=some f)(e:f.ack=0):f.src<ds.length/\∃y,P f.src y/\y.kn=f.known/\f.known.length<=s.es.length:=by obtain⟨a,rfl⟩:=ϑn.1 d;obtain⟨_,_,_,f4,_,_,_,f8⟩:=h.Qm k (by rw[h.o9];exact a) a;obtain⟨y,_,_,_,_,b,c,_⟩:=f8 V;exact⟨f4,y,b,c,by rw[<- c];exact((h.hist _ f4).ok y b).len⟩
def Yr(h:cZ w x S s.1 A pd q cap fv ds bs D P)(n:xA s ds H ov){k k':Nat}(d:k<ds.length)(M:k'<ds.length)(Q:k≠k'){b:ByteArray}(G:XY b ds[k] k'):∀m,b.size<=rF s k k' m:=by
 have K:=jO s.1 ds k d;have a:=n.rep k d;obtain⟨o,p⟩:=Yp (h.hist k d) h.oD h.kK.len a G;rw[K]at o p;intro m;induction m with
 | zero=>exact o
 | succ m ih =>
  unfold rF;split
  .rename_i f y hf hy;split
   .rename_i hc2;obtain⟨i,B,C,E,j⟩:=hc2;refine Nat.le_min.2 ⟨ih, ?_⟩;obtain⟨R,r,t,_⟩:=(h.knew hf i).2;obtain⟨e,u,g,c,v⟩:=(n.fr m f y hf hy).2 i;rw[B]at r e u g c;rw[C]at c;have N:=c E j;have T:=g j;have F:=(um a.Jl e (a.ack k')).1 N;have L:ds[k].dr<=ds[k].A k':=by
     refine(um a.Jl a.dr (a.ack k')).1 ?_;rcases a.ovd with l|l
     .omega
     .exact l k' M (Ne.symm Q)
    have:=p R r (by rw[t];exact F) L;rw[t,<- v]at this;exact this
   .exact ih
  .exact ih
end
structure DnB(es:List Ev)(D:List Nat)(ds:List bI)(j:Nat)(cur:Hs)(r:RD)(d:Dn)(hb:Hs):Prop where
 ok:hb.Ok es D
 kn:hb.kn=d.xQ
 le:cur.le hb
 lt:cnt cur.kn<cnt d.xQ
 dom:∀i(h:i<ds.length),i≠j->hb.K i<=ds[i].K i
 own:hb.K j=r.K j+if d.own then 1 else 0
 ev:d.own=true->∃m:Nat,D[m]?=some (dX j (r.K j+1))
 tn:∃len dd,1<=len/\len<=d.most/\r.dd=some dd/\((d.kV<len/\dd=⟨r.K,r.C,r.n⟩)\/(len<=d.kV/\dd=⟨hb.K,hb.C,r.n+1⟩))
structure Qs(es:List Ev)(D:List Nat)(ds:List bI)(j:Nat)(cur:Hs)(L:LR)(r:RD):Prop where
 up:L.dn.isSome=r.dd.isSome
 arm:(L.arm=none/\r.cut=false)\/∃b:Nat,L.arm=some b/\r.cut=true/\r.k=(b:Int)
 dn:∀d,L.dn=some d->∃hb,DnB es D ds j cur r d hb
def Qs.step{es':List Ev}{D':List Nat}{c:List bI}{j:Nat}{cur:Hs}{L:LR}(h:Qs es D ds j cur L r)(s:∀y:Hs,(∀i(a:i<ds.length),i≠j->y.K i<=ds[i].K i)->y.Ok es D->y.Ok es' D')(p:∀(m d:Nat),D[m]?=some d->who d=j->D'[m]?=some d)(k:c.length=ds.length)(o:∀i(a:i<ds.length),i≠j->ds[i].K i<=(c[i]'(by rw[k];exact a)).K i)(l:r.K j+1<512):Qs es' D' c j cur L r:=by
 refine⟨h.up,h.arm,λd n=>?_⟩;obtain⟨e,b⟩:=h.dn d n;refine⟨e,s e b.dom b.ok,b.kn,b.le,b.lt,λi a g=>?_,b.own,λt=>?_,b.tn⟩
 .have f:i<ds.length:=by rw[<- k];exact a
  exact ς (b.dom i f g) (o i f g)
 .obtain⟨m,q⟩:=b.ev t;exact⟨m,p m _ q (dI l)⟩
def jW(rs:Nat->LR)(j:Nat):Nat:=match (rs j).dn with
 | some d=>if d.own then 1 else 0
 | none=>0
def iI(w:World)(x:Nat)(S:Nat->Prop)(s:Sl):Prop:=∃q cap fv ds bs D P H ov,cZ w x S s.1 s.acc (jW s.rs) q cap fv ds bs D P/\xA s ds H ov/\∀j(h:j<ds.length),Qs s.es D ds j (fM s.1 ds j) (s.rs j) ds[j]
def AV:bT iI:={
 stable:=by rintro M w w' x S s⟨q,cap,fv,ds,bs,D,P,H,ov,h,b⟩ c d;exact⟨q,cap,fv,ds,bs,D,P,H,ov,h.aJ c d,b⟩
 tags:=by rintro w x S s k t⟨q,cap,fv,ds,bs,D,P,H,ov,h,_⟩ a e;exact h.tags a e
 lt:=by rintro w x S s k⟨q,cap,fv,ds,bs,D,P,H,ov,h,_⟩ a;exact h.lt a }
def U5{s:Sl}(c:s.kn.length=ds.length)(h:∀j(d:j<ds.length),(s.rs j).dn.isSome=ds[j].dd.isSome)(i:Int):iQ s i=aK ds i:=by
 unfold iQ aK;rw[c];by_cases a:0<=i/\i<ds.length
 .rw[ώ a,ώ a];obtain⟨k,rfl⟩:=Int.eq_ofNat_of_zero_le a.1;have b:k<ds.length:=V
  rw[qB ds k b,<- h k b];rfl
 .rw[ύ a,ύ a]
def JB{s:St}{f:Int}{g:lH}(h:iF s f=some g):∃k:Nat,∃a:k<s.fs.length,f=(k:Int)+1/\s.fs[k]=g:=by
 unfold iF at h;split at h
 .obtain⟨a,e⟩:=ϑn.1 h;exact⟨f.toNat-1,a,V,e⟩
 .cases h
def uh.seal{n:Nat}{h:List lH}{P:Nat->Hs->Prop}{o:Nat->Hs}{b:Nat×ByteArray}{f:lH}(i:uh n h P o b f):b.2=f.bytes/\b.1<n/\f.bytes.size<=700000/\(∃l,ay f.bytes=bM l)/\(0<f.ack->f.bytes.size<=80):=by
 obtain⟨f1,f2,f3,f4,f5,f6,f7,f8⟩:=i;refine⟨f2,V,f6, ?_,λc=>?_⟩
 .by_cases c:0<f.ack
  .obtain⟨t,_,e,g,a,_⟩:=f7 c;exact⟨_,a⟩
  .obtain⟨x,S,C,rs,m,e,g,a,j,k⟩:=f8 c;exact⟨_,a⟩
 .obtain⟨t,_,e,g,a,_⟩:=f7 c;have d:=aB f.bytes;rw[a,gJ]at d;unfold kG at d;have:=aO 1;have:=aO f.src;have:=aO (cnt t.kn);simp only[ρ]at d;omega
def Yt(rb c b a j d n:Nat):lX n j (GH rb c b a j d n) ⟨0,0,[],λ_=>0,none,none⟩ [0] 0 :=
 ⟨rfl,Ω,rfl,rfl,χ _,rfl,rfl,rfl,λ_=>rfl,χ _,τ (χ _)⟩
section
variable{w w':World}{x:Nat}{S:Nat->Prop}{s:Sl}{q cap:Nat}{fv:Value}{ds:List bI}{bs:List (Nat×ByteArray)}{D:List Nat}{P:Nat->Hs->Prop}{H:Nat->List Nat}{ov:Nat->Nat}
def uw{es es':List Ev}{D':List Nat}{cu a:Nat->Hs}{rs:Nat->LR}(l:∀j(h:j<ds.length),Qs es D ds j (cu j) (rs j) ds[j]){k:Nat}(A:k<ds.length)(f:∀j(h:j<ds.length),ds[j].K j<=500){r':RD}{L':LR}(s:∀j y,j≠k->(∀i(p:i<ds.length),i≠j->y.K i<=ds[i].K i)->Hs.Ok es D y->Hs.Ok es' D' y)(o:∀(j m d:Nat),j≠k->D[m]?=some d->who d=j->D'[m]?=some d)(g:ds[k].K k<=r'.K k)(n:∀j,j≠k->a j=cu j)(t:Qs es' D' (ds.set k r') k (a k) L' r'):∀j(h:j<(ds.set k r').length),Qs es' D' (ds.set k r') j (a j) (aX rs k L' j) (ds.set k r')[j]:=by
 intro j q;have c:j<ds.length:=by simpa using q
 rw[ϑi];by_cases e:k=j
 .subst e;rw[ώ rfl,aN];exact t
 .rw[ύ e,aS _ _ (Ne.symm e),n j (Ne.symm e)];refine(l j c).step (λy w u=>s j y (Ne.symm e) w u) (λm d r v=>o j m d (Ne.symm e) r v) Ω (λi p x=>?_) (by have:=f j c;omega);rw[ϑi];by_cases b:k=i
  .subst b;rw[ώ rfl];exact g
  .rw[ύ b];exact χ _
def cZ.k5{A:Nat}{pd:Nat->Nat}(h:cZ w x S s.1 A pd q cap fv ds bs D P):∀j(a:j<ds.length),ds[j].K j<=500:=λj a=>(h.kK.rep j a).nI j
def BG{rs:Nat->LR}{k:Nat}{L':LR}(h:L'.dn=(rs k).dn):jW (aX rs k L')=jW rs:=by
 funext j;unfold jW;by_cases e:j=k
 .subst e;rw[aN,h]
 .rw[aS _ _ e]
def EC(h:cZ w x S s.1 s.acc (jW s.rs) q cap fv ds bs D P)(y:xA s ds H ov)(i:∀j(h:j<ds.length),Qs s.es D ds j (fM s.1 ds j) (s.rs j) ds[j]){k:Nat}(a:k<ds.length){r':RD}{L':LR}(R:jo w.heap.size ds[k] r')(c:r'.K=ds[k].K)(g:r'.C=ds[k].C)(M:r'.room=ds[k].room)(u:iH s.es D k (P k) (fM s.1 ds) (fM s.1 ds k) r'){f:List Nat}{o:Nat}(B:lX ds.length k r' L' f o)(v:∀(m:Nat)x,(H k)[m]?=some x->f[m]?=some x)(K:(s.rs k).lost<=L'.lost)(e:L'.lost=(s.rs k).lost->o=ov k)(C:L'.lost=(s.rs k).lost->∀j,(s.rs k).ak j<=L'.ak j)(d:L'.dn=(s.rs k).dn)(Q:r'.dd=none)(N:ds[k].dd=none)(E:(L'.arm=none/\r'.cut=false)\/∃b:Nat,L'.arm=some b/\r'.cut=true/\r'.k=(b:Int))(F:aV w' x q cap fv 0 (ds.set k r') bs):iI w' x (Jy x q fv (ds.set k r')) ⟨s.1,s.room,aX s.rs k L',s.ls,s.acc⟩/\∀b,Jy x q fv (ds.set k r') b->S b\/w.heap.size<=b:=by
 have hF:=h.same a c g u F;have t:=y.turn (es':=s.es) (Eu:=s.kn) (A:=s.acc) a B M v K e C (λ_ _ _=>rfl);have n:(s.rs k).dn=none:=by
  have:=(i k a).up;rw[N]at this;cases hx:(s.rs k).dn with
  | none=>rfl
  | some p=>rw[hx]at this;cases this
 refine⟨⟨q,cap,fv,_,bs,D,P,_,_, ?_,t, ?_⟩,h.zU a R (λT G=>τ G)⟩
 .show cZ w' x _ s.1 s.acc (jW (aX s.rs k L')) q cap fv _ bs D P;rw[BG d];exact hF
 .have r:=mX s.1 ds a c g;show ∀j(h:j<(ds.set k r').length),Qs s.es D (ds.set k r') j (fM s.1 (ds.set k r') j) (aX s.rs k L' j) (ds.set k r')[j];rw[r];refine uw i a h.k5 (λ_ _ _ _ e=>e) (λ_ _ _ _ L _=>L) (by rw[c];exact χ _) (λ_ _=>rfl) ⟨by rw[d,n,Q];rfl,E,λp l=>?_⟩;rw[d,n]at l;cases l
end
def wE{w:World}{x:Nat}{s:Sl}{A:Nat}{pd:Nat->Nat}{q cap:Nat}{fv:Value}{bs:List (Nat×ByteArray)}{P:Nat->Hs->Prop}(h:cZ w x S s.1 A pd q cap fv ds bs D P)(d:∀j(h:j<ds.length),Qs s.es D ds j (fM s.1 ds j) (s.rs j) ds[j]):(∀i,iQ s i=aK ds i)/\∀j(a:j<ds.length),(s.rs j).arm.isSome=ds[j].cut:=by
 refine⟨U5 h.len (λj a=>(d j a).up),λj a=>?_⟩;rcases(d j a).arm with⟨b,c⟩|⟨e,b,c,_⟩
 .rw[b,c];(first|done|rfl)
 .rw[b,c];(first|done|rfl)
def Yu(w:World)(x:Nat)(S:Nat->Prop)(s:Sl)(i:Int)(u:Glob w)(E:iI w x S s):Calls prog 52 #[.pointer (some (z x)),I i] w λl w'=>l=.returned (I (iQ s i))/\∃j,iI w' x j (wH s i)/\(∀k,j k->S k\/w.heap.size<=k)/\aA S w w':=by
 obtain⟨q,cap,fv,ds,bs,D,P,H,ov,h,e,d⟩:=E;have F:=(wE h d).1;refine ψ (UK w u x q cap fv ds bs h.kK i) ?_;rintro l w'⟨r,rfl,t,m,n⟩;have B:=h.len;unfold wH;rw[F];refine⟨rfl, ?_⟩;rcases t with⟨A,rfl⟩|⟨k,a,c,rfl,g,G,f,rfl⟩
 .rw[ύ A];exact⟨S,⟨q,cap,fv,r,bs,D,P,H,ov,h.keep m,e,d⟩,λk a=>τ a,h.sc n⟩
 .have C:aK ds (k:Int)=0:=by unfold aK;rw[ώ V,qB ds k a,g];(first|done|rfl)
  rw[ώ C];have y:=(e.rep k a).Ql (h.kK.ra k a).2.2 f;have v:=(h.hist k a).Ql f;have b:c.K=ds[k].K/\c.C=ds[k].C/\c.room=ds[k].room/\c.dd=ds[k].dd/\c.cut=ds[k].cut/\c.k=ds[k].k:=by obtain⟨L,rfl⟩:=f;exact⟨rfl,rfl,rfl,rfl,rfl,rfl⟩
  obtain⟨o,p⟩:=EC h e d a G b.1 b.2.1 b.2.2.1 v y (λ_ _ h=>h) (χ _) (λ_=>rfl) (λ_ K=>χ _) rfl (by rw[b.2.2.2.1];exact g) g (by rw[b.2.2.2.2.1,b.2.2.2.2.2];exact(d k a).arm) m;exact⟨_,by rw[B];exact o,p,h.sc n⟩
def Qu(w:World)(x:Nat)(S:Nat->Prop)(s:Sl)(i:Int)(r:Glob w)(G:iI w x S s):Calls prog 54 #[.pointer (some (z x)),I i] w λe w'=>e=.returned (I (iQ s i))/\∃f,iI w' x f (pU s i)/\(∀k,f k->S k\/w.heap.size<=k)/\aA S w w':=by
 obtain⟨q,cap,fv,ds,bs,D,P,H,ov,h,c,b⟩:=G;have M:=(wE h b).1;refine ψ (Qj w r x q cap fv ds bs h.kK i) ?_;rintro e w'⟨o,rfl,p,g,l⟩;unfold pU;rw[M];refine⟨rfl, ?_⟩;rcases p with⟨C,rfl⟩|⟨k,a,r',rfl,d,Q,L,rfl⟩
 .rw[ύ C];exact⟨S,⟨q,cap,fv,o,bs,D,P,H,ov,h.keep g,c,b⟩,λk a=>τ a,h.sc l⟩
 .have E:aK ds (k:Int)=0:=by unfold aK;rw[ώ V,qB ds k a,d];(first|done|rfl)
  rw[ώ E];obtain⟨io,co,lo,rfl⟩:=L;obtain⟨R,v,t⟩:=(c.rep k a).lost (r':={ ds[k]with io:=some io,co:=some co,lo:=some lo,pv:=.slice none 0 0,dr:=aF ds[k].K,A:=λ_=>0,ps:=[] }) (L':=(s.rs k).lose) rfl rfl rfl rfl rfl (τ ⟨rfl,rfl⟩);have B:=jO s.1 ds k a;have F:=(h.hist k a).ok _ (h.hist k a).now;have K:aF (fM s.1 ds k).K=cnt (fM s.1 ds k).kn:=by rw[B];exact(h.size k a).symm
  have j:=(h.hist k a).lost F (Hs.le.refl _) (υ rfl) K (r':={ ds[k]with io:=some io,co:=some co,lo:=some lo,pv:=.slice none 0 0,dr:=aF ds[k].K,A:=λ_=>0,ps:=[] }) (h.hist k a).cK.symm (h.hist k a).cC.symm (by rw[(h.hist k a).cK]) rfl rfl;have u:(λy=>P k y\/y=fM s.1 ds k)=P k:=funext λy=>propext ⟨λN=>N.elim id (λe=>e▸(h.hist k a).now),τ⟩;rw[u]at j;obtain⟨m,n⟩:=EC h c b a Q rfl rfl rfl j v t (Nat.le_succ _) (λe=>absurd e (Nat.succ_ne_self _)) (λe=>absurd e (Nat.succ_ne_self _)) rfl d d (b k a).arm g;exact⟨_,m,n,h.sc l⟩
def Yv(w:World)(x:Nat)(S:Nat->Prop)(s:Sl)(i b:Int)(_:Glob w)(A:iI w x S s):Calls prog 56 #[.pointer (some (z x)),I i,I b] w λo w'=>o=.returned (I (vO s i b))/\∃m,iI w' x m (rJ s i b)/\(∀k,m k->S k\/w.heap.size<=k)/\aA S w w':=by
 obtain⟨q,cap,fv,ds,bs,D,P,H,ov,h,e,f⟩:=A;have B:=(wE h f).1;refine ψ (U2 w x q cap fv ds bs h.kK i b) ?_;rintro o w'⟨r,n,rfl,y,j,l⟩;unfold rJ vO;rw[B];rcases y with⟨c,rfl,rfl⟩|⟨c,g,rfl,rfl⟩|⟨k,d,rfl,c,g,rfl,rfl⟩
 .rw[ύ c,ύ c];exact⟨rfl,S,⟨q,cap,fv,n,bs,D,P,H,ov,h.keep j,e,f⟩,λk d=>τ d,h.sc l⟩
 .rw[ώ c,ώ g,ύ Ψ];exact⟨rfl,S,⟨q,cap,fv,n,bs,D,P,H,ov,h.keep j,e,f⟩,λk d=>τ d,h.sc l⟩
 .rw[ώ c,ύ g,ώ rfl];obtain⟨k2,C,E,p⟩:=gK c;have v:k=k2:=V
  subst v;have a:=h.hist k d;obtain⟨t,u⟩:=EC h e f d (L':=⟨(s.rs k).made,(s.rs k).lost,(s.rs k).kept,(s.rs k).ak,some b.toNat,(s.rs k).dn⟩) (AU g) rfl rfl rfl ⟨a.ok,a.nil,a.now,a.cK,a.cC,a.ord,a.top,a.dr,a.ack⟩ ((e.rep k d).same rfl rfl rfl rfl rfl rfl rfl) (λ_ _ h=>h) (χ _) (λ_=>rfl) (λ_ F=>χ _) rfl p p (υ ⟨b.toNat,rfl,rfl,by show b=_;omega⟩) j;exact⟨rfl,_,t,u,h.sc l⟩
def aa8(w:World)(r o:Nat)(A:Glob w)(u:1<=r)(v:r<=6)(E:o<=50):Calls prog 10 #[I r,I o] w λp w'=>∃x S,p=.returned (.tuple #[.pointer (some (z x)),I 0])/\iI w' x S (st0 r o)/\(∀k,S k->w.heap.size<=k)/\Below w.heap.size w w':=by
 have D:4<=w.heap.size:=A.size;refine ψ (XU r o w A u v E) ?_;rintro p w'⟨U,ds,rfl,P,n⟩;subst P;obtain⟨q,cap,rfl,N,G⟩:=n.done D u v rfl;have d:=λj h=>(n.rep j h).2.1;have B:∀j,fM ⟨[],List.replicate ds.length [],[]⟩ ds j=⟨[],λ_=>0,λ_=>none⟩:=λj=>by
  unfold fM;have F:(List.replicate ds.length ([]:List Bool)).getD j []=[]:=by
   by_cases a:j<ds.length
   .simp[a]
   .rw[ξ,ϑq Θ];(first|done|rfl)
  show Hs.mk ((List.replicate ds.length ([]:List Bool)).getD j []) _ _=_;rw[F];by_cases a:j<ds.length
  .obtain⟨l,g,f,e,b⟩:=d j a;rw[σ a,b];rfl
  .rw[ϑq V];(first|done|rfl)
 refine⟨w.heap.size,Jy w.heap.size q (.slice none 0 0) ds,rfl,⟨q,cap,.slice none 0 0,ds,[],[],λ_ y=>y=⟨[],λ_=>0,λ_=>none⟩,λ_=>[0],λ_=>0,⟨G,λk=>Iff.rfl,by simp[st0],⟨rfl,List.Pairwise.nil,λt h=>absurd h Ω⟩,λj a=>?_,λj a i y _ c=>by subst c;exact Nat.zero_le _,λj a t h=>absurd h Ω,λj=>Nat.zero_le _, ?_,by simp[kH],λp K=>absurd K (by simp[st0]),rfl,λj h=>absurd h Ω⟩,⟨λj a=>?_,λj a=>?_,rfl,λk T x L=>absurd L (by simp[st0])⟩,λj a=>?_⟩,λk s=>?_,n.bel⟩
 .show iH [] [] j _ (fM ⟨[],List.replicate ds.length [],[]⟩ ds) (fM ⟨[],List.replicate ds.length [],[]⟩ ds j) ds[j];rw[B j];obtain⟨l,g,f,e,b⟩:=d j a;rw[b];refine⟨λy c=>by subst c;exact Kn.nil,⟨_,rfl,rfl⟩,rfl,rfl,rfl,λy W c Q _=>by subst c;subst Q;exact Hs.le.refl _,λy c=>by subst c;exact Hs.le.refl _,⟨_,rfl,rfl,rfl⟩,λi=>⟨_,rfl,rfl,by rw[B i];exact Hs.le.refl _⟩⟩
 .have R:∀m,lF ds m=0:=λm=>by
   induction m with
   | zero=>rfl
   | succ m ih =>
    rw[lF,ih];unfold yQ;by_cases C:m<ds.length
    .obtain⟨l,g,f,e,b⟩:=d m C;rw[σ C,b];rfl
    .rw[ϑq V];(first|done|rfl)
  rw[R];(first|done|rfl)
 .obtain⟨l,g,f,e,b⟩:=d j a;rw[b];(first|done|rfl)
 .obtain⟨l,g,f,e,b⟩:=d j a;rw[b];exact Yt _ _ _ _ _ _ _
 .obtain⟨l,g,f,e,b⟩:=d j a;rw[b];exact⟨rfl,τ ⟨rfl,rfl⟩,λt H=>by cases H⟩
 .rcases s with rfl|rfl|s|⟨j,a,M⟩
  .exact χ _
  .exact N
  .cases s
  .exact(n.rep j a).2.2 k M
def Yw(w:World)(x:Nat)(S:Nat->Prop)(s:Sl)(i j:Int)(hG:Glob w)(hp:iI w x S s):Calls prog 14 #[.pointer (some (z x)),I i,I j] w λG w'=>G=.returned (.tuple #[I (iC s i j).1,I (iC s i j).2])/\∃e o,rH s i j o/\iI w' x e o/\(∀k,e k->S k\/w.heap.size<=k)/\aA S w w':=by
 obtain⟨q,cap,fv,ds,bs,D,P,H,ov,h,t,C⟩:=hp;have v:=(wE h C).1;refine ψ (UM w hG x q cap fv ds bs h.kK (λj E=>⟨(h.hist j E).aD2 h.oD h.kK.len h.r505 h.src,by rw[<- h.size j E];exact(h.tie j E).av4 h.oD h.r505⟩) i j) ?_;rintro G w'⟨n,r,a1,T,rfl,Z,p,hc,u⟩;have a0:=h.o9;have N:=hc.wide (λk d=>(h.own k).2 (d.elim τ (λd=>υ (υ (τ d)))));have F:∀{f:Value}{y:Int},iC s i j=(0,y)->y≠0->aV w' x q cap f 0 ds bs->(∀g,f.ownBlock=some g->fv.ownBlock=some g\/w.heap.size<=g)->∃e o,rH s i j o/\iI w' x e o/\(∀g,e g->S g\/w.heap.size<=g)/\aA S w w':=λ{f y}he c hC2 hn2=>⟨Jy x q f ds,s,by unfold rH;rw[he];exact(ύ c).mpr rfl,⟨q,cap,f,ds,bs,D,P,H,ov,⟨hC2,λg=>Iff.rfl,h.len,h.oD,h.hist,h.dom,h.mine,h.Vs,h.sum,h.r505,h.src,h.o9,h.Qm⟩,t,C⟩,h.yQ hn2,N⟩;have K:dS ds [i,j]≠0->iC s i j=(0,dS ds [i,j]):=λc=>by
  unfold iC;rw[v,v];rw[Ea]at c⊢;by_cases l:aK ds i=0
  .rw[ώ l]at c;rw[ώ l,ώ l,ύ c]
  .rw[ύ l,ύ l]
 have B:dS ds [i,j]=0->iC s i j=if i=j then(0,1)else if 500<=s.fs.length then(0,7) else((s.fs.length:Int)+1,0):=λc=>by unfold iC;rw[v,v,ώ (uV c).1,ώ (uV c).2]
 rcases Z with⟨b,rfl,rfl,rfl⟩|⟨b,m,rfl,rfl,rfl⟩|⟨b,m,U,rfl,rfl,rfl⟩|⟨b,k,k',d,A,rfl,rfl,Q,m,U,rfl,rfl,rfl,M⟩
 .exact⟨by rw[K b],F (K b) b p u⟩
 .have a:=B b;rw[ώ m]at a;exact⟨by rw[a],F a Ψ p u⟩
 .have a:=B b;rw[ύ m,ώ V]at a;exact⟨by rw[a],F a Ψ p u⟩
 .have a:=B b;rw[ύ m,ύ V,<- a0]at a;have R:k≠k':=V
  obtain⟨e,W,X⟩:=h.sent d Q R M p u;have L:=t.rep k d;have hf:FrL s.es s.rs H ov ⟨k,k',0,s.kn.getD k [],A⟩ (newL s k k'):=⟨Yr h t d Q R M _,λ_=>⟨by show(H k)[(s.rs k).made]?=some (cnt (s.kn.getD k []));rw[show cnt (s.kn.getD k [])=_ from h.size k d];exact L.top,χ _,λ_=>L.ovl,λY=>(by cases Y),rfl⟩⟩;refine⟨by rw[a];rfl,e,⟨⟨s.es,s.kn,s.fs++[⟨k,k',0,s.kn.getD k [],A⟩]⟩,s.room,s.rs,s.ls++[newL s k k'],s.acc⟩, ?_,⟨q,cap,T,ds,_,D,P,H,ov,W,t.one hf,C⟩,X,N⟩;unfold rH;rw[a];exact(ώ rfl).mpr ⟨A,rfl⟩
def Yx(w:World)(x:Nat)(S:Nat->Prop)(s:Sl)(f:Int)(_:Glob w)(p:iI w x S s):Calls prog 45 #[.pointer (some (z x)),I f] w λe w'=>e=.returned (.tuple #[.string (fH s.1 f).1,I (fH s.1 f).2])/\∃b,iI w' x b s/\(∀k,b k->S k\/w.heap.size<=k)/\aA S w w':=by
 obtain⟨q,cap,fv,ds,bs,D,P,H,ov,h,l,m⟩:=p;refine ψ (Qk w x q cap fv ds bs h.kK h.bsz f) ?_;rintro e w'⟨rfl,j,n⟩;have g:=h.o9;have i:ug bs f=fH s.1 f:=by
  unfold ug fH iF;by_cases a:1<=f/\f<=bs.length
  .rw[ώ a,ώ (by rw[<- g];exact a)];have c:f.toNat-1<bs.length:=V
   have d:f.toNat-1<s.fs.length:=V
   obtain⟨_,f2,_⟩:=h.Qm _ c d;rw[σ c,σ d];simp only[Option.map_some,Option.getD_some];rw[f2]
  .rw[ύ a,ύ (by rw[<- g];exact a)]
 exact⟨by rw[i],S,⟨q,cap,fv,ds,bs,D,P,H,ov,h.keep j,l,m⟩,λk o=>τ o,h.sx n⟩
def U6(w:World)(x:Nat)(S:Nat->Prop)(s:Sl)(f b:Int)(_:Glob w)(C:iI w x S s):Calls prog 49 #[.pointer (some (z x)),I f,I b] w λe w'=>e=.returned (I (kW s f b))/\∃d,iI w' x d s/\(∀k,d k->S k\/w.heap.size<=k)/\aA S w w':=by
 obtain⟨q,cap,fv,ds,bs,D,P,H,ov,h,y,r⟩:=C;have l:∀{a:Int},kW s f b=a->(Calls prog 49 #[.pointer (some (z x)),I f,I b] w λe w'=>e=.returned (I a)/\aV w' x q cap fv 0 ds bs/\aA (λk=>k=x) w w')->Calls prog 49 #[.pointer (some (z x)),I f,I b] w λe w'=>e=.returned (I (kW s f b))/\∃d,iI w' x d s/\(∀k,d k->S k\/w.heap.size<=k)/\aA S w w':=λ{a}c o=>by rw[c];refine ψ o ?_;rintro e w'⟨rfl,v,o⟩;exact⟨rfl,S,⟨q,cap,fv,ds,bs,D,P,H,ov,h.keep v,y,r⟩,λk i=>τ i,h.sx o⟩
 have A:=h.o9;cases hno:iF s.1 f with
 | none =>refine l (a:=9) (by unfold kW;rw[hno]) (Qo w x q cap fv ds bs h.kK f b λB=>?_);unfold iF at hno;rw[ώ (by rw[<- A];exact B)]at hno;have:=List.getElem?_eq_none_iff.1 hno;have G:=this;omega
 | some g =>
  obtain⟨k,i,rfl,rfl⟩:=JB hno;have K:=i;have j:k<bs.length:=V
  obtain⟨c,p,t,⟨F,u⟩,_⟩:=(h.Qm k j i).seal;obtain⟨f1,_⟩:=h.Qm k j i;by_cases n:b<0\/8*(s.fs[k].bytes.size:Int)<=b
  .exact l (a:=1) (by unfold kW;rw[hno];exact ώ n) (Qp w x q cap fv ds bs h.kK k j b (by rw[c];exact n) (by rw[c];omega))
  .have E:=(r _ p).up;refine l (a:=if ds[bs[k].1].dd.isSome then 3 else 9) (by unfold kW;rw[hno];refine(ύ n).trans ?_;rw[<- E,f1]) ?_;obtain⟨m,rfl⟩:∃m:Nat,b=(m:Int):=⟨b.toNat,V⟩;have:=U4 w x q cap fv ds bs h.kK k j (m / 8) (m % 8) (by rw[aB,c];omega) V F (by rw[c];exact u) (by rw[c];exact t) p;rw[(V:m / 8*8+m % 8=m)]at this;exact this
def Yy(w:World)(x:Nat)(S:Nat->Prop)(s:Sl)(i:Int)(_:Glob w)(m:iI w x S s):Calls prog 26 #[.pointer (some (z x)),I i] w λe w'=>e=.returned (.tuple #[I (rG s i).1,I (rG s i).2])/\∃c,iI w' x c s/\(∀k,c k->S k\/w.heap.size<=k)/\aA S w w':=by
 obtain⟨q,cap,fv,ds,bs,D,P,H,ov,h,d,f⟩:=m;refine ψ (Ju w x q cap fv ds bs h.kK i) ?_;rintro e w'⟨rfl,j,l⟩;have g:Az ds i=rG s i:=by
  unfold Az rG;rw[(wE h f).1];by_cases a:aK ds i=0
  .rw[ώ a,ώ a];obtain⟨k,rfl,b,_⟩:=gK a;have e:(k:Int).toNat=k:=rfl;rw[e,σ b,(d.rep _ b).kept,List.length_range'];rfl
  .rw[ύ a,ύ a]
 exact⟨by rw[g],S,⟨q,cap,fv,ds,bs,D,P,H,ov,h.keep j,d,f⟩,λk b=>τ b,h.sx l⟩
def ND{n:Nat}{b:Hs}(f:b.Ok es D)(e:uX es D n)(d:jT (fst b.K) b.C){rs:List (Nat×Nat)}{a:List (Nat×Thk.Bs)}(c:dW (fst b.K) b.C rs a){m:Nat}(q:m<268435456):1<=(slotL m (encS rs a)).length/\(slotL m (encS rs a)).length<=200+80*(aH es b.kn es.length).length:=by
 obtain⟨r,s⟩:=G7 f e c;have g:=xw rs;have h:=uq c d;have i:=aO rs.length;have j:=aO a.length;have k:=c.len;have p:(encS rs a).length=(aZ rs.length).length+(rs.flatMap encR).length+(aZ a.length).length+(a.flatMap encI).length:=by unfold encS;simp only[ρ]
 have l:=jc 3 m V;have o:=jc 3 (encS rs a).length V;unfold slotL;rw[gJ,ρ,ρ];omega
def LR.xWq(a:Nat)(L:LR):(L.write a).dn=L.dn/\(L.write a).arm=L.arm:=by unfold LR.write;split<;>exact⟨rfl,rfl⟩
def RG{rs:Nat->LR}{k:Nat}{d:Dn}:jW (aX rs k ((rs k).Ba d))=aX (jW rs) k (if d.own then 1 else 0):=by
 funext j;unfold jW;by_cases e:j=k
 .subst e;rw[aN,aN];(first|done|rfl)
 .rw[aS _ _ e,aS _ _ e]
def RH{j:Nat}{cur:Hs}{L:LR}(h:Qs es D ds j cur L r)(a:r.dd=none):L.dn=none:=by
 have:=h.up;rw[a]at this;cases hx:L.dn with
 | none=>rfl
 | some d=>rw[hx]at this;cases this
def aa9(w:World)(x:Nat)(S:Nat->Prop)(s:Sl)(i:Int)(t:ByteArray)(r:Int)(s':Sl)(hG:Glob w)(hp:iI w x S s)(hs:t.size<=1048576)(o:Oj s i (ay t) r s'):Calls prog 11 #[.pointer (some (z x)),I i,.string t] w λE w'=>E=.returned (I r)/\∃n,iI w' x n s'/\(∀k,n k->S k\/w.heap.size<=k)/\aA S w w':=by
 obtain⟨q,cap,fv,ds,bs,D,P,H,ov,h,F,d⟩:=hp;have hu:=(wE h d).1;have ar:=h.sum;have ab:∀k(b3:k<ds.length),ds[k].dd=none->jW s.rs k=0:=λk b3 l=>by unfold jW;rw[RH (d k b3) l]
 refine ψ (ZY w hG x q cap fv ds bs h.kK i t hs (λk b3 N l c hl=>(h.doB c b3 (by rw[<- ar];exact hl) (ab k b3 l)).2.2.1)) ?_;rintro E w'⟨r',b0,rfl,hD,L,hc⟩;have M:=h.sc hc;have a9:=h.len;unfold Oj at o;rw[hu]at o;rcases hD with⟨v,rfl,rfl⟩|⟨m,v,c,rfl,rfl⟩|⟨N,v,c,hl,rfl,rfl⟩|⟨N,k,b3,r2,rfl,l,c,hl,ag,ad,rfl⟩ <;>
  rcases o with⟨g,rfl,rfl⟩|⟨k',g,b,rfl,rfl⟩|⟨c',g,b,R,rfl,rfl⟩|⟨c',f,g,b,R,a1,e⟩
 .exact⟨rfl,S,⟨q,cap,fv,_,bs,D,P,H,ov,h.keep L,F,d⟩,λk b3=>τ b3,M⟩
 .exact absurd g v
 .exact absurd g v
 .exact absurd g v
 .exact absurd v g
 .rw[c]at b;cases b
  exact⟨rfl,S,⟨q,cap,fv,_,bs,D,P,H,ov,h.keep L,F,d⟩,λk b3=>τ b3,M⟩
 .rw[c]at b;cases b
 .rw[c]at b;cases b
 .exact absurd v g
 .rw[c]at b;cases b
 .exact⟨rfl,S,⟨q,cap,fv,_,bs,D,P,H,ov,h.keep L,F,d⟩,λk b3=>τ b3,M⟩
 .omega
 .exact absurd (by unfold aK;rw[ώ V,qB ds k b3,l];rfl) g
 .rw[c]at b;cases b
 .omega
 .rw[c]at b;cases b
  have ak:(k:Int).toNat=k:=rfl;rw[ak]at a1 e;have a2:=ab k b3 l;have a5:=RH (d k b3) l;have a6:∀Q∈s.fs,Q.ack=0->aH (s.es++[f]) Q.known (s.es++[f]).length=aH s.es Q.known s.es.length:=λQ hf h0=>by obtain⟨m,e⟩:=List.mem_iff_getElem?.1 hf;obtain⟨_,U,_,_,av⟩:=h.knew e h0;exact Qr av
  have an:=(h.tie k b3).len;rcases ag with⟨hb,a0,hM⟩|⟨hb,a0,a3⟩
  .have ap:r'=0:=by simpa using hb
   subst ap;have ah:(s.rs k).arm=none:=by
    rcases(d k b3).arm with⟨h1,_⟩|⟨B,_,u,_⟩
    .exact h1
    .rw[a0]at u;cases u
   rw[ah]at e;obtain⟨rfl,rfl⟩:=e;obtain⟨n,y,P',K,X,Y,Z⟩:=h.done c b3 R a2 a1 hM L;obtain⟨io,co,lo,st,pv,rfl,_⟩:=hM;have ac:=K.size k (by simpa using b3);have b1:cnt (s.kn.getD k [])=_:=h.size k b3;have ao:aF ds[k].K<aF (inc ds[k].K k):=by
    have e9:((s.kn.set k (dw (s.kn.getD k []) s.es.length)).getD k [])=dw (s.kn.getD k []) s.es.length:=by rw[Ns _ _ (by rw[a9];exact b3),ώ rfl]
    rw[ϑi,ώ rfl]at ac;have e8:cnt ((s.kn.set k (dw (s.kn.getD k []) s.es.length)).getD k [])=aF (inc ds[k].K k):=ac;rw[e9,BU]at e8;omega
   obtain⟨H',aw,W⟩:=F.write b3 (io:=io) (co:=co) (lo:=lo) (pv:=pv) (fr:=k) (st:=st) (C:=iD ds[k].C N (dX k (ds[k].K k+1))) ao (es':=s.es++[f]) (Eu:=s.kn.set k (dw (s.kn.getD k []) s.es.length)) (A:=s.acc+1) a6;obtain⟨wd,wa⟩:=LR.xWq s.room (s.rs k);refine⟨rfl,n,⟨q,cap,fv,_,bs,y,P',H',aw, ?_,W, ?_⟩,X,M⟩
   .show cZ w' x n _ (s.acc+1) (jW (aX s.rs k _)) q cap fv _ bs y P';rw[BG wd];exact K
   .refine uw (cu:=fM s.1 ds) (D:=D) d b3 h.k5 (λj U _ _ ho=>Y U ho) (λj m G _ e _=>Z m G e) (by show _<=inc ds[k].K k k;rw[dU];omega) (λj T=>?_) ⟨?_, ?_,λG o=>?_⟩
    .rw[yU s.1 ds b3 a9,ύ (Ne.symm T)]
    .rw[wd,a5];show _=ds[k].dd.isSome;rw[l];(first|done|rfl)
    .rw[wa];exact(d k b3).arm
    .rw[wd,a5]at o;cases o
  .have aq:r'=8:=ad.resolve_left (by simpa using hb);subst aq;obtain⟨B,ai,_,al⟩:∃B:Nat,(s.rs k).arm=some B/\ds[k].cut=true/\ds[k].k=(B:Int):=by
    rcases(d k b3).arm with⟨_,u⟩|u
    .rw[a0]at u;cases u
    .exact u
   rw[ai]at e;obtain⟨rfl,rfl⟩:=e;obtain⟨n,y,K,X,aa,ae,Y,Z⟩:=h.aD4 c b3 R a2 a1 a3 L;have hB:=(h.doB c b3 R a2).2.2.1;have af:=K.oD;have Kr:=(h.kK.rep k b3).n;have a8:=tY (h.kK.rep k b3).dg.2;rw[RD.zK l]at Kr a8;obtain⟨rs,b2,p,x1,x2,rfl⟩:=a3;obtain⟨ax,az⟩:=ND aa af hB x1 (m:=ds[k].n+1) (by have:ds[k].n<=aF ds[k].K:=Kr;have:aF ds[k].K<=_:=a8;omega);have W:=F.turn (es':=s.es++[f]) (Eu:=s.kn) (A:=s.acc) b3 (L':=(s.rs k).Ba (E5 (s.es++[f]) (dw (s.kn.getD k []) s.es.length) true B)) ((F.rep k b3).same (r':=ds[k].kV p) rfl rfl rfl rfl rfl rfl rfl) rfl (λ_ _ h=>h) (Nat.le_succ _) (λE=>absurd E (Nat.succ_ne_self _)) (λE=>absurd E (Nat.succ_ne_self _)) a6;refine⟨rfl,n,⟨q,cap,fv,_,bs,y,P,_,_, ?_,W, ?_⟩,X,M⟩
   .show cZ w' x n _ s.acc (jW (aX s.rs k _)) q cap fv _ bs y P;rw[RG];exact K
   .have ec:=mX ⟨s.es++[f],s.kn,s.fs⟩ ds b3 (r':=ds[k].kV p) rfl rfl;show ∀j(h:j<(ds.set k (ds[k].kV p)).length),Qs (s.es++[f]) y (ds.set k (ds[k].kV p)) j (fM ⟨s.es++[f],s.kn,s.fs⟩ (ds.set k (ds[k].kV p)) j) (aX s.rs k _ j) (ds.set k (ds[k].kV p))[j];rw[ec];refine uw (cu:=fM s.1 ds) (D:=D) d b3 h.k5 (λj U _ _ ho=>Y U ho) (λj m G _ e _=>Z m G e) (χ _) (λj T=>rfl) ⟨rfl,τ ⟨rfl,rfl⟩,λG o=>?_⟩;cases o
    have a4:fM ⟨s.es++[f],s.kn,s.fs⟩ ds k=⟨s.kn.getD k [],ds[k].K,ds[k].C⟩:=jO _ ds k b3;refine⟨⟨dw (s.kn.getD k []) s.es.length,inc ds[k].K k,iD ds[k].C N (dX k (ds[k].K k+1))⟩,aa,rfl, ?_, ?_,λj T a7=>?_,dU _ _,λ_=>⟨_,ae⟩,⟨_,p,ax,az,rfl,x2 B al⟩⟩
    .rw[a4];intro a ha;show(dw (s.kn.getD k []) s.es.length).getD a false=true;rw[ru _ _ an];have:(s.kn.getD k []).getD a false=true:=ha;rw[this];(first|done|rfl)
    .rw[a4];show cnt (s.kn.getD k [])<cnt (dw (s.kn.getD k []) s.es.length);rw[BU];omega
    .have aj:j<ds.length:=by simpa using T
     show inc ds[k].K k j<=_;rw[gQ a7,ϑi,ύ (Ne.symm a7)];have:=h.dom j aj k _ b3 (h.hist k b3).now;rw[jO s.1 ds k b3]at this;exact this
def ab1(w:World)(x:Nat)(S:Nat->Prop)(s:Sl)(f:Int)(hG:Glob w)(hp:iI w x S s):Calls prog 15 #[.pointer (some (z x)),I f] w λi w'=>i=.returned (.tuple #[I (delS s f).1,I (delS s f).2])/\∃v s',J9 s f s'/\iI w' x v s'/\(∀k,v k->S k\/w.heap.size<=k)/\aA S w w':=by
 obtain⟨q,cap,fv,ds,bs,D,P,H,ov,h,l,e⟩:=hp;refine ψ (h.Ko (λj Q=>(e j Q).up) (wE h e).2 hG f) ?_;rintro i w'⟨rfl,v,s1,p,aq,o,n,hF,c,ax,B⟩;refine⟨rfl,v, ?_⟩;have ai:=h.len;unfold Jz at c;unfold J9;cases hno:iF s.1 f with
 | none =>rw[hno]at c;obtain⟨rfl,rfl⟩:=c;exact⟨s,rfl,⟨q,cap,p,_,o,D,n,H,ov,hF,l,e⟩,ax,B⟩
 | some g =>
  rw[hno]at c;dsimp only at c⊢;by_cases u:(s.rs g.dst).dn.isSome=true
  .rw[ώ u]at c;obtain⟨rfl,rfl⟩:=c;exact⟨s,(ώ u).mpr rfl,⟨q,cap,p,_,o,D,n,H,ov,hF,l,e⟩,ax,B⟩
  rw[ύ u]at c;have L:(s.rs g.dst).dn=none:=by simpa using u
  by_cases t:0<g.ack
  .rw[ώ t]at c;obtain⟨rfl,g0,g1,g2,g3,g4,aw,rfl⟩:=c;have a2:=(ϑn.1 g1).1;have X:s.ls[g.ack-1]?=some (s.ls[g.ack-1]'(by rw[l.ln];exact a2)):=σ _;generalize s.ls[g.ack-1]'(by rw[l.ln];exact a2)=x0 at X;have E:=NC X;obtain⟨b1,b2,b3,b4,b5⟩:=(l.fr _ g0 x0 g1 X).2 g4;rw[g2]at b1;have hR:=(l.rep g.dst aw).Gl g.src b1;have N:=l.turn (es':=s.es) (Eu:=s.kn) (A:=s.acc) aw hR rfl (λ_ _ h=>h) (χ _) (λ_=>rfl) (λ_ j=>by
    show(s.rs g.dst).ak j<=aX (s.rs g.dst).ak g.src (max ((s.rs g.dst).ak g.src) x0.made) j;by_cases i:j=g.src
    .rw[i,aN];omega
    .rw[aS _ _ i];exact χ _) (λ_ _ _=>rfl)
   have r:=N.hadd (g.ack-1) (λf2 x2 ae al h0=>by have Z:=Option.some.inj ((show s.fs[g.ack-1]?=some f2 from ae).symm.trans g1);have e2:=Option.some.inj ((show s.ls[g.ack-1]?=some x2 from al).symm.trans X);rw[Z,e2,g2,g3];show x0.made<=(aX s.rs g.dst ((s.rs g.dst).Sm g.src x0.made) g.dst).ak g.src;rw[aN];show x0.made<=aX (s.rs g.dst).ak g.src (max ((s.rs g.dst).ak g.src) x0.made) g.src;rw[aN];omega);refine⟨⟨s.1,s.room,aX s.rs g.dst ((s.rs g.dst).Sm g.src x0.made),Cb s.ls (g.ack-1),s.acc⟩,(ύ u).mpr ((ώ t).mpr (by rw[E])),⟨q,cap,p,_,o,D,n,_,_, ?_,r, ?_⟩,ax,B⟩
   .show cZ w' x v s.1 s.acc (jW (aX s.rs g.dst _)) q cap p _ o D n;rw[BG (rs:=s.rs) (k:=g.dst) (L':=(s.rs g.dst).Sm g.src x0.made) rfl];exact hF
   .have ec:=mX s.1 ds aw (r':=ds[g.dst].ack g.src (cnt g0.known)) rfl rfl;show ∀j(h:j<(ds.set g.dst (ds[g.dst].ack g.src (cnt g0.known))).length),Qs s.es D _ j (fM s.1 (ds.set g.dst (ds[g.dst].ack g.src (cnt g0.known))) j) (aX s.rs g.dst _ j) _;rw[ec];refine uw e aw h.k5 (λ_ _ _ _ U=>U) (λ_ _ _ _ E _=>E) (χ _) (λ_ _=>rfl) ⟨(e _ aw).up,(e _ aw).arm,λd G=>?_⟩;have a6:(s.rs g.dst).dn=some d:=G;rw[L]at a6;cases a6
  rw[ύ t]at c;by_cases F:500<=s.fs.length
  .rw[ώ F]at c;obtain⟨rfl,rfl⟩:=c;exact⟨s,(ύ u).mpr ((ύ t).mpr ((ώ F).mpr rfl)),⟨q,cap,p,_,o,D,n,H,ov,hF,l,e⟩,ax,B⟩
  rw[ύ F]at c;obtain⟨aw,c⟩:=c;obtain⟨k0,a2,ar,_⟩:=JB hno;have hz:∀{Eu:List (List Bool)}{b:ByteArray},s1=⟨s.es,Eu,s.fs++[⟨g.dst,g.src,f.toNat,[],b⟩]⟩->∀rs H ov,FrL s.es rs H ov ⟨g.dst,g.src,f.toNat,[],b⟩ ⟨0,0,false,80,[]⟩:=λ{Eu b}Z rs H ov=>by
   subst Z;have aj:=hF.o9;have hl:s.fs.length<(s.fs++[(⟨g.dst,g.src,f.toNat,[],b⟩:lH)]).length:=Ω
   have:=(hF.Qm s.fs.length (by rw[aj];exact hl) hl).seal.2.2.2.2;have i:(s.fs++[(⟨g.dst,g.src,f.toNat,[],b⟩:lH)])[s.fs.length]=⟨g.dst,g.src,f.toNat,[],b⟩:=Ω
   rw[i]at this;exact⟨this (by show 0<f.toNat;omega),λh0=>by have:f.toNat=0:=h0;omega⟩
  rcases c with⟨hn,rfl,b,rfl⟩|⟨R,a0,⟨io,co,lo,pv,st,W,Y,rfl,ak,aa⟩,b,rfl⟩|⟨R,a0,rfl,W,Y,r',a3,a9,a4,ab,rfl⟩
  .have T:jQ s g=false:=by unfold jQ;exact decide_eq_false hn
   exact⟨_,(ύ u).mpr ((ύ t).mpr ((ύ F).mpr (by rw[T];exact⟨b,rfl⟩))),⟨q,cap,p,_,o,D,n,H,ov,hF,l.one (hz rfl _ _ _),e⟩,ax,B⟩
  .have T:jQ s g=true:=by unfold jQ;exact decide_eq_true R
   have ac:(s.rs g.dst).arm=none:=by
    rcases(e _ aw).arm with⟨N,_⟩|⟨b,_,r,_⟩
    .exact N
    .rw[a0]at r;cases r
   obtain⟨wd,wa⟩:=LR.xWq s.room (s.rs g.dst);obtain⟨H',an,N⟩:=l.write aw (io:=io) (co:=co) (lo:=lo) (pv:=pv) (fr:=g.src) (st:=st) (K:=W) (C:=Y) (by rw[ak,<- show cnt (s.kn.getD g.dst [])=_ from h.size _ aw];exact R) (es':=s.es) (Eu:=s.kn) (A:=s.acc) (λ_ _ _=>rfl);refine⟨_,(ύ u).mpr ((ύ t).mpr ((ύ F).mpr (by rw[T,ac];exact⟨b,rfl⟩))),⟨q,cap,p,_,o,D,n,H',an, ?_,N.one (hz rfl _ _ _), ?_⟩,ax,B⟩
   .show cZ w' x v _ s.acc (jW (aX s.rs g.dst _)) q cap p _ o D n;rw[BG wd];exact hF
   .have a1:ds[g.dst].dd=none:=by have:=(e _ aw).up;rw[L]at this;cases hx:ds[g.dst].dd with|none=>rfl|some d=>rw[hx]at this;cases this
    refine uw (cu:=fM s.1 ds) (D:=D) e aw h.k5 (λj y _ _ U=>U) (λj m d _ E _=>E) (aa _) (λj Q=>?_) ⟨?_, ?_,λd G=>?_⟩
    .rw[yU s.1 ds aw ai,ύ (Ne.symm Q)]
    .rw[wd,L];show _=ds[g.dst].dd.isSome;rw[a1];(first|done|rfl)
    .rw[wa];exact(e _ aw).arm
    .rw[wd,L]at G;cases G
  .have T:jQ s g=true:=by unfold jQ;exact decide_eq_true R
   obtain⟨b,ad,_,ah⟩:∃b:Nat,(s.rs g.dst).arm=some b/\ds[g.dst].cut=true/\ds[g.dst].k=(b:Int):=by
    rcases(e _ aw).arm with⟨_,r⟩|r
    .rw[a0]at r;cases r
    .exact r
   have a1:ds[g.dst].dd=none:=by have:=(e _ aw).up;rw[L]at this;cases hx:ds[g.dst].dd with|none=>rfl|some d=>rw[hx]at this;cases this
   have hB:=Kn.UW a3 h.oD h.kK.len h.r505 h.src;have Kr:=(h.kK.rep _ aw).n;have a7:=tY (h.kK.rep _ aw).dg.2;rw[RD.zK a1]at Kr a7;obtain⟨rs,av,M,x1,x2,rfl⟩:=ab;obtain⟨ao,ap⟩:=ND a3 h.oD hB x1 (m:=ds[g.dst].n+1) (by have:ds[g.dst].n<=aF ds[g.dst].K:=Kr;have:aF ds[g.dst].K<=_:=a7;omega);have a8:=l.turn (es':=s.es) (Eu:=s.kn) (A:=s.acc) aw (L':=(s.rs g.dst).Ba (E5 s.es (bH (s.kn.getD g.dst []) g.known) false b)) ((l.rep _ aw).same (r':=ds[g.dst].kV M) rfl rfl rfl rfl rfl rfl rfl) rfl (λ_ _ h=>h) (Nat.le_succ _) (λi=>absurd i (Nat.succ_ne_self _)) (λi=>absurd i (Nat.succ_ne_self _)) (λ_ _ _=>rfl);refine⟨_,(ύ u).mpr ((ύ t).mpr ((ύ F).mpr (by rw[T,ad]))),⟨q,cap,p,_,o,D,n,_,_, ?_,a8, ?_⟩,ax,B⟩
   .show cZ w' x v s.1 s.acc (jW (aX s.rs g.dst _)) q cap p _ o D n;have:jW s.rs g.dst=0:=by unfold jW;rw[L]
    have e9:aX (jW s.rs) g.dst (if(E5 s.es (bH (s.kn.getD g.dst []) g.known) false b).own then 1 else 0)=jW s.rs:=funext λj=>by
     by_cases i:j=g.dst
     .rw[i,aN,this];(first|done|rfl)
     .rw[aS _ _ i]
    rw[RG,e9];exact hF
   .have ec:=mX s.1 ds aw (r':=ds[g.dst].kV M) rfl rfl;show ∀j(h:j<(ds.set g.dst (ds[g.dst].kV M)).length),Qs s.es D _ j (fM s.1 (ds.set g.dst (ds[g.dst].kV M)) j) (aX s.rs g.dst _ j) _;rw[ec];refine uw e aw h.k5 (λ_ _ _ _ U=>U) (λ_ _ _ _ E _=>E) (χ _) (λ_ _=>rfl) ⟨rfl,τ ⟨rfl,rfl⟩,λd G=>?_⟩;cases G
    have a5:=jO s.1 ds _ aw;refine⟨⟨bH (s.kn.getD g.dst []) g.known,W,Y⟩,a3,rfl, ?_, ?_,λj Q ag=>?_, ?_,λh=>(by cases h),⟨_,M,ao,ap,rfl,x2 b ah⟩⟩
    .rw[a5];exact λa t=>(jK _ _).1 a t
    .rw[a5];exact R
    .have af:j<ds.length:=by simpa using Q
     rw[ϑi,ύ (Ne.symm ag)];exact a4 j af
    .show W g.dst=ds[g.dst].K g.dst+0;have:=a9 g.dst;have:=a4 _ aw;omega
