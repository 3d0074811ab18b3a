import Derived.Test.YtfmmllpjgkgeaaaGreatDoorPartS04
import Derived.Test.YtfmmllpjgkgeaaaGreatDoorPartS40
import Derived.Test.YtfmmllpjgkgeaaaGreatDoorPartS41
set_option linter.unusedVariables false
set_option linter.unusedSimpArgs false
set_option maxHeartbeats 16000000
set_option maxRecDepth 100000
namespace Go.Proofs.YtfmmllpjgkgeaaaGreatDoor
section
open Go.RowKit Go.Maps Go.WideMaps
structure RepT(n i:Nat)(r:RD)(L:LR)(H:List Nat)(ov:Nat):Prop where
 h0:H[0]?=some 0
 srt:H.Pairwise (· < ·)
 len:H.length=L.made+1
 top:H[L.made]?=some (sizeK r.K)
 nl:r.ps.length<=L.made
 kept:L.kept=List.range' (L.made-r.ps.length+1) r.ps.length
 mks:r.ps.map PcD.mark=H.drop (L.made-r.ps.length+1)
 dr:H[L.made-r.ps.length]?=some r.dr
 ack:∀j,H[L.ak j]?=some (r.A j)
 ovl:ov<=L.made
 ovd:L.made-r.ps.length<=ov\/∀j,j<n->j≠i->L.made-r.ps.length<=L.ak j
section
variable{n i:Nat}{r:RD}{L:LR}{H:List Nat}{ov:Nat}
theorem get_lt{H:List Nat}{a b x y:Nat}(h:H.Pairwise (· < ·))(f:H[a]?=some x)(g:H[b]?=some y):a<b↔x<y:=by
 obtain⟨d,rfl⟩:=List.getElem?_eq_some_iff.1 f;obtain⟨e,rfl⟩:=List.getElem?_eq_some_iff.1 g;rcases Nat.lt_trichotomy a b with c|c|c
 .have:=List.pairwise_iff_getElem.1 h a b d e c;omega
 .subst c;omega
 .have:=List.pairwise_iff_getElem.1 h b a e d c;omega
theorem get_le{H:List Nat}{a b x y:Nat}(h:H.Pairwise (· < ·))(c:H[a]?=some x)(d:H[b]?=some y):a<=b↔x<=y:=by have:=get_lt h d c;omega
theorem get_app{H:List Nat}{a x:Nat}(l:List Nat)(h:H[a]?=some x):(H++l)[a]?=some x:=by rw[ε (List.getElem?_eq_some_iff.1 h).1];exact h
theorem rng_tail(a m:Nat):(List.range' a (m+1)).tail=List.range' (a+1) m:=by rw[List.range'_succ];(first|done|rfl)
theorem range_snoc(a m:Nat):List.range' a m++[a+m]=List.range' a (m+1):=by rw[List.range'_concat];simp
theorem RepT.write(h:RepT n i r L H ov){io co lo:Nat}{pv:Value}{fr:Nat}{st:StD}{K:Nat->Nat}{C:Nat->Option Thk.Ch}(B:sizeK r.K<sizeK K):∃u,RepT n i (r.more io co lo pv fr st K C) (L.write r.room) (H++[sizeK K]) u/\((L.write r.room).lost=L.lost->u=ov)/\L.lost<=(L.write r.room).lost:=by
 have g:=h.len;have D:=h.nl;have p:L.kept.length=r.ps.length:=by rw[h.kept];simp
 have s:(H++[sizeK K]).Pairwise (· < ·):=by rw[List.pairwise_append];refine⟨h.srt,Ω,λy w A x=>?_⟩;rw[List.mem_singleton.1 x];obtain⟨k,o,rfl⟩:=List.getElem_of_mem w;have:=(get_le h.srt (σ o) h.top).1 V;omega
 have t:(H++[sizeK K])[L.made+1]?=some (sizeK K):=by rw[ϋ V,g,Nat.sub_self];(first|done|rfl)
 have m:∀k,k<=L.made+1->(H++[sizeK K]).drop k=H.drop k++[sizeK K]:=λk o=>List.drop_append_of_le_length V;by_cases c:r.room<r.ps.length+1
 .have a:L.write r.room=⟨L.made+1,L.lost+1,(L.kept++[L.made+1]).tail,L.ak⟩:=by unfold LR.write;rw[p,ώ c]
  have d:(r.more io co lo pv fr st K C).ps=(r.ps++[(⟨sizeK K,fr,st⟩:PcD)]).tail:=by show addP _ _ _=_;unfold addP;rw[ώ c]
  have f:(r.more io co lo pv fr st K C).dr=((r.ps++[(⟨sizeK K,fr,st⟩:PcD)]).headD ⟨sizeK K,fr,st⟩).mark:=by show addD _ _ _ _=_;unfold addD;rw[ώ c]
  have b:(r.more io co lo pv fr st K C).ps.length=r.ps.length:=by rw[d];simp
  have q:(r.ps++[(⟨sizeK K,fr,st⟩:PcD)]).map PcD.mark=(H++[sizeK K]).drop (L.made-r.ps.length+1):=by rw[List.map_append,h.mks,m _ V];(first|done|rfl)
  refine⟨L.made+1-r.ps.length,⟨get_app _ h.h0,s,by rw[a];simp[g],by rw[a];exact t,by rw[a,b];show _<=L.made+1;omega, ?_, ?_, ?_,λj=>by rw[a];exact get_app _ (h.ack j),by rw[a];show _<=L.made+1;omega,τ (by rw[a,b];exact χ _)⟩,λl=>by rw[a]at l;simp at l,by rw[a];exact Nat.le_succ _⟩
  .rw[a,b];show(L.kept++[L.made+1]).tail=List.range' (L.made+1-r.ps.length+1) r.ps.length;rw[h.kept];have:=range_snoc (L.made-r.ps.length+1) r.ps.length;rw[(V:L.made-r.ps.length+1+r.ps.length=L.made+1)]at this;rw[this,rng_tail];congr 1;omega
  .rw[a,d,List.map_tail,q,List.tail_drop];show _=List.drop (L.made+1-(List.tail _).length+1) _;rw[List.length_tail,ρ,List.length_singleton];congr 1;omega
  .rw[a,b,f];show(H++[sizeK K])[L.made+1-r.ps.length]?=_;rw[(V:L.made+1-r.ps.length=L.made-r.ps.length+1)];have v:((H++[sizeK K]).drop (L.made-r.ps.length+1)).head? = (H++[sizeK K])[L.made-r.ps.length+1]?:=by rw[List.head?_drop]
   rw[<- v,<- q];cases r.ps<;>rfl
 .have a:L.write r.room=⟨L.made+1,L.lost,L.kept++[L.made+1],L.ak⟩:=by unfold LR.write;rw[p,ύ c]
  have d:(r.more io co lo pv fr st K C).ps=r.ps++[(⟨sizeK K,fr,st⟩:PcD)]:=by show addP _ _ _=_;unfold addP;rw[ύ c]
  have f:(r.more io co lo pv fr st K C).dr=r.dr:=by show addD _ _ _ _=_;unfold addD;rw[ύ c]
  have b:(r.more io co lo pv fr st K C).ps.length=r.ps.length+1:=by rw[d];simp
  have e:L.made+1-(r.ps.length+1)=L.made-r.ps.length:=V
  refine⟨ov,⟨get_app _ h.h0,s,by rw[a];simp[g],by rw[a];exact t,by rw[a,b];show _<=L.made+1;omega, ?_, ?_, ?_,λj=>by rw[a];exact get_app _ (h.ack j),by rw[a];have:=h.ovl;show _<=L.made+1;omega, ?_⟩,λ_=>rfl,by rw[a];exact χ _⟩
  .rw[a,b];show L.kept++[L.made+1]=List.range' (L.made+1-(r.ps.length+1)+1) (r.ps.length+1);rw[h.kept,e,<- range_snoc];congr 2;omega
  .rw[a,d,List.map_append,h.mks];show _=List.drop (L.made+1-(r.ps++[_]).length+1) _;rw[ρ,List.length_singleton,e,m _ V];rfl
  .rw[a,b,f];show(H++[sizeK K])[L.made+1-(r.ps.length+1)]?=_;rw[e];exact get_app _ h.dr
  .rw[a,b];show L.made+1-(r.ps.length+1)<=ov\/∀j,j<n->j≠i->L.made+1-(r.ps.length+1)<=L.ak j;rw[e];exact h.ovd
theorem RepT.acked(h:RepT n i r L H ov)(j:Nat){m x:Nat}(b:H[m]?=some x):RepT n i (r.ack j x) (L.ackd j m) H ov:=by
 refine⟨h.h0,h.srt,h.len,h.top,h.nl,h.kept,h.mks,h.dr,λk=>?_,h.ovl,h.ovd.imp id (λc k d f=>ς (c k d f) ?_)⟩
 .show H[updN L.ak j (max (L.ak j) m) k]?=some (if k=j then max (r.A j) x else r.A k);by_cases e:k=j
  .rw[e,updN_same,ώ rfl];have:=get_le h.srt (h.ack j) b;by_cases a:L.ak j<=m
   .rw[Nat.max_eq_right a,Nat.max_eq_right (this.1 a)];exact b
   .have l:¬r.A j<=x:=λg=>a (this.2 g);rw[Nat.max_eq_left V,Nat.max_eq_left V];exact h.ack j
  .rw[updN_oth _ _ e,ύ e];exact h.ack k
 .show L.ak k<=updN L.ak j (max (L.ak j) m) k;by_cases e:k=j
  .rw[e,updN_same];omega
  .rw[updN_oth _ _ e];exact χ _
theorem allAk_iff{n i m:Nat}{b:Nat->Nat}:allAk n i b m=true↔∀j,j<n->j≠i->m<=b j:=by unfold allAk;simp only[List.all_eq_true,List.mem_range,Bool.or_eq_true,beq_iff_eq,decide_eq_true_eq];exact⟨λh j a c=>(h j a).resolve_left c,λh j a=>(Classical.em (j=i)).imp id (h j a)⟩
theorem tick_rng{n i:Nat}{f:Nat->Nat}{H:List Nat}{A:Nat->Nat}{c:List Nat}(r:H.Pairwise (· < ·))(m:∀j,H[f j]?=some (A j))(l:∀j,j∈c↔j<n/\j≠i):∀(b:List PcD)(a k:Nat),b.map PcD.mark=H.drop (a+1)->H[a]?=some k->(List.range' (a+1) b.length).filter (λs=>!allAk n i f s)=List.range' (a+(b.length-(tickP c A b).length)+1) (tickP c A b).length/\(tickP c A b).length<=b.length/\(tickP c A b).map PcD.mark=H.drop (a+(b.length-(tickP c A b).length)+1)/\H[a+(b.length-(tickP c A b).length)]?=some (tickD c A k b)/\((tickP c A b).length=b.length\/∀j,j<n->j≠i->a+(b.length-(tickP c A b).length)<=f j)
 | [],a,k,h1,h2=>⟨rfl,χ _,h1,h2,τ rfl⟩
 | p::b,a,k,h1,h2=>by
  have q:H[a+1]?=some p.mark:=by have:=congrArg List.head? h1;rw[List.head?_drop]at this;exact this.symm
  have u:b.map PcD.mark=H.drop (a+1+1):=by have:=congrArg List.tail h1;rw[List.tail_drop]at this;exact this
  have o:(∀j∈c,p.mark<=A j)↔∀j,j<n->j≠i->a+1<=f j:=⟨λh j g d=>(get_le r q (m j)).2 (h j ((l j).2 ⟨g,d⟩)),λh j g=>(get_le r q (m j)).1 (h j ((l j).1 g).1 ((l j).1 g).2)⟩;unfold tickP tickD;by_cases e:∀j∈c,p.mark<=A j
  .rw[ώ ((all_dec c A p.mark).2 e),ώ ((all_dec c A p.mark).2 e)];obtain⟨y,E,B,C,D⟩:=tick_rng r m l b (a+1) p.mark u q;have t:a+((p::b).length-(tickP c A b).length)=a+1+(b.length-(tickP c A b).length):=by rw[δ];omega
   rw[t];have v:allAk n i f (a+1)=true:=allAk_iff.2 (o.1 e);refine⟨?_,by rw[δ];omega,B,C,υ ?_⟩
   .rw[δ,List.range'_succ,List.filter_cons_of_neg (by rw[v];simp)];exact y
   .rcases D with d|d
    .rw[d,Nat.sub_self];exact o.1 e
    .exact d
  .rw[ύ (λh=>e ((all_dec c A p.mark).1 h)),ύ (λh=>e ((all_dec c A p.mark).1 h))];rw[Nat.sub_self,Nat.add_zero];refine⟨?_,χ _,h1,h2,τ rfl⟩;rw[List.filter_eq_self];intro s w;have x:=List.mem_range'_1.1 w;have:¬allAk n i f s=true:=λh=>e (o.2 (λj g d=>ς x.1 (allAk_iff.1 h j g d)));simpa using this
theorem RepT.ticked(h:RepT n i r L H ov)(k:∀j,j∈r.nb↔j<n/\j≠i){r':RD}(l:tickPP r r'):RepT n i r' (L.tick n i) H ov:=by
 obtain⟨o,rfl⟩:=l;have g:=h.nl;obtain⟨b,m,c,d,e⟩:=tick_rng h.srt h.ack k r.ps (L.made-r.ps.length) r.dr h.mks h.dr;have f:L.made-r.ps.length+(r.ps.length-(tickP r.nb r.A r.ps).length)=L.made-(tickP r.nb r.A r.ps).length:=V
 rw[f]at b c d e;refine⟨h.h0,h.srt,h.len,h.top,ς m g, ?_,c,d,h.ack,h.ovl, ?_⟩
 .show L.kept.filter _=_;rw[h.kept];exact b
 .rcases e with a|a
  .show L.made-(tickP r.nb r.A r.ps).length<=ov\/∀j,j<n->j≠i->L.made-(tickP r.nb r.A r.ps).length<=L.ak j;rw[a];exact h.ovd
  .exact υ a
end
theorem nodup_sum{b:Type} [DecidableEq b] (f:b->Thk.Bs):∀{l m:List b},l.Nodup->(∀x∈l,x∈m)->(l.flatMap f).length<=(m.flatMap f).length
 | [],_,_,_=>Ω
 | x::l,m,hn,hm=>by
  obtain⟨m1,m2,rfl⟩:=List.append_of_mem (hm x Ω);have c:=List.nodup_cons.1 hn;have h:=nodup_sum f (l:=l) (m:=m1++m2) c.2 (λy d=>by
   have a:=hm y (by simp[d]);have g:y≠x:=λe=>c.1 (e▸d);simp only[θ,List.mem_cons]at a⊢;rcases a with a|a|a
   .exact τ a
   .exact absurd a g
   .exact υ a)
  simp only[List.flatMap_cons,List.flatMap_append,ρ]at h⊢;omega
theorem chOK_len{c:Thk.Ch}(h:ChOK c):(txtC c).length<=29:=by obtain⟨a,b,_⟩:=Thk.read_ok _ _ h.2.1;have:=(txt_read h.2.1 h.2.2).2;omega
theorem enc_sz(a m:Nat)(rs:List (Nat×Nat))(b:List (Nat×Thk.Bs)):(sealL (encFm a m rs b)).length=4+((encN 0).length+(encN a).length+(encN m).length+((encN rs.length).length+(rs.flatMap encR).length+(encN b.length).length+(b.flatMap encI).length)):=by unfold encFm encS;rw[sealL_len];simp only[ρ];omega
section
variable{S:Nat->Prop}{C:Nat->Option Thk.Ch}{rs rs':List (Nat×Nat)}{its its':List (Nat×Thk.Bs)}
theorem runs_short(rs:List (Nat×Nat)):(rs.flatMap encR).length<=rs.length*6:=by refine flatMap_le' encR 6 rs (λr a=>?_);unfold encR encD;have:=encN_len (who r.1);have:=encN_len (nth r.1);have:=encN_len r.2;rw[ρ,ρ];omega
theorem items_short(h:EncOf S C rs its)(a:StoB S C):(its.flatMap encI).length<=its.length*35:=by refine flatMap_le' encI 35 its (λx d=>?_);unfold encI encD;have:=encN_len (who x.1);have:=encN_len (nth x.1);have:=encN_len x.2.length;obtain⟨c,b,e⟩:=h.tx x d;have:=chOK_len (a.all _ c b);rw[<- e]at this;simp only[ρ];omega
theorem items_same(h:EncOf S C rs its)(b:EncOf S C rs' its'):(its.flatMap encI).length<=(its'.flatMap encI).length:=by
 have j:its.Nodup:=(List.pairwise_map.1 h.nd).imp (λh e=>h (congrArg _ e));refine nodup_sum encI j (λx k=>?_);obtain⟨l,f,e⟩:=h.tx x k;have a:itsC its' its'.length x.1≠none:=by rw[b.it];exact itOf_none.2 (by rw[f];simp)
 unfold itsC at a;rw[List.take_length]at a;cases hf:its'.reverse.find? (λy=>y.1==x.1) with
 | none=>rw[hf]at a;exact absurd rfl a
 | some y =>
  have c:y.1=x.1:=by simpa using List.find?_some hf
  have d:=List.mem_reverse.1 (List.mem_of_find?_eq_some hf);obtain⟨m,g,i⟩:=b.tx y d;rw[c,f]at g;cases g
  have:y=x:=Prod.ext c (by rw[e,i]);rw[<- this];exact d
end
theorem filt_split(a b:Nat->Bool)(h:∀k,b k=true->a k=true):∀l:List Nat,(l.filter λk=>a k&&!b k).length+(l.filter b).length=(l.filter a).length
 | []=>rfl
 | x::l=>by
  have d:=filt_split a b h l;have c:=h x;simp only[List.filter_cons];cases hb:b x
  .cases ha:a x<;>simp<;>omega
  .rw[c hb];simp;omega
theorem filt_or(p q:Nat->Bool):∀l:List Nat,(l.filter λk=>p k||q k).length<=(l.filter p).length+(l.filter q).length
 | []=>Ω
 | x::l=>by have a:=filt_or p q l;simp only[List.filter_cons];cases p x<;>cases q x<;>simp<;>omega
theorem dots_le{D ns:List Nat}(f:ns.Nodup){E:Nat}{q:Nat->Bool}(g:∀d∈ns,∃k,k<E/\D[k]?=some d/\q k=true):ns.length<=((List.range E).filter q).length:=by have:=nodup_le f (m:=((List.range E).filter q).map λk=>D.getD k 0) (λd e=>by obtain⟨k,a,b,c⟩:=g d e;refine ι.2 ⟨k,List.mem_filter.2 ⟨List.mem_range.2 a,c⟩, ?_⟩;rw[ξ,b];rfl);rwa [List.length_map]at this
theorem goneN_eq(es:List Ev)(a b:List Bool):goneN (aliveTo es a es.length) (aliveTo es b es.length)=((List.range es.length).filter λk=>alive es a k&&!alive es b k).length:=by
 unfold goneN aliveTo;rw[List.filter_filter];congr 1;refine List.filter_congr λk c=>?_;have:((List.range es.length).filter (alive es b)).contains k=alive es b k:=by rw[Bool.eq_iff_iff];simp only[List.contains_iff_mem,List.mem_filter,c,true_and]
 rw[this,Bool.and_comm]
theorem ChainH.at{P:Hs->Prop}{i:Nat}{o:Nat->Hs}:∀{a:List PcD}{s t:Hs},ChainH P i o s a t->P s->∀k(h:k<a.length),∃c b,P c/\PcIs P i o a[k] c b/\(cnt s.kn::a.map PcD.mark)[k]?=some (cnt c.kn)
 | [],_,_,_,_,k,h=>by simp at h
 | p::a,s,t,⟨b,h1,h2⟩,hs,0,_=>⟨s,b,hs,h1,rfl⟩
 | p::a,s,t,⟨b,h1,h2⟩,hs,k+1,h=>by obtain⟨e,j,f,g,d⟩:=ChainH.at h2 h1.pb k (by simpa using h);refine⟨e,j,f,g, ?_⟩;rw[<- h1.mark]at d;exact d
section
variable{n i:Nat}{r:RD}{L:LR}{H:List Nat}{ov:Nat}
theorem RepT.ahead(h:RepT n i r L H ov){j k x:Nat}(b:k<r.ps.length)(d:r.A j<r.ps[k].mark)(a:(r.dr::r.ps.map PcD.mark)[k]?=some x):r.A j<=x:=by
 have e:r.dr::r.ps.map PcD.mark=H.drop (L.made-r.ps.length):=by rw[h.mks];obtain⟨c,e⟩:=List.getElem?_eq_some_iff.1 h.dr;rw[<- e,List.drop_eq_getElem_cons c]
 rw[e,List.getElem?_drop]at a;have f:H[L.made-r.ps.length+1+k]?=some r.ps[k].mark:=by rw[<- List.getElem?_drop,<- h.mks];simp[b]
 have g:=(get_lt h.srt (h.ack j) f).2 d;exact(get_le h.srt (h.ack j) a).1 V
end
section
variable{es:List Ev}{D:List Nat}{n i:Nat}{P:Hs->Prop}{o:Nat->Hs}{cur:Hs}{r:RD}
theorem piece_dot(h:HistR es D i P o cur r)(m:EvD es D n){y a b:Hs}(C:P y)(s:P a)(p:P b)(G:a.le b)(R:cnt y.kn<=cnt a.kn){d:Nat}(l:1<=nth d)(f:newH a b d):∃k,k<es.length/\D[k]?=some d/\((cur.kn.getD k false&&!y.kn.getD k false)=true\/((alive es y.kn k&&!alive es cur.kn k)=true/\b.C d=none)):=by
 have T:=h.ok y C;have q:=h.ok a s;have g:=h.ok b p;have F:=h.ok cur h.now;obtain⟨k,x,rfl⟩:=List.getElem_of_mem (g.mem l f.1);have c:D[k]?=some D[k]:=σ x;have A:k<es.length:=by rw[<- m.len];exact x
 have E:=h.ord y a C s R;have L:=(g.vec k _ c).2 f.1;have M:=(h.top b p) k L;refine⟨k,A,c, ?_⟩;cases hyk:y.kn.getD k false with
 | false=>exact τ (by rw[M];rfl)
 | true =>
  have H:=E k hyk;have w:=(q.vec k _ c).1 H;have B:¬(b.C D[k]=none↔a.C D[k]=none):=λe=>f.2 ⟨w,e⟩;have Q:=Hs.sle q g m G;have t:a.C D[k]≠none:=λe=>B ⟨λ_=>e,λ_=>(Q.g D[k] ⟨⟨l,w⟩,e⟩).2⟩;have u:b.C D[k]=none:=Classical.byContradiction λe=>B ⟨λj=>absurd j e,λj=>absurd j t⟩;have v:cur.C D[k]=none:=((Hs.sle g F m (h.top b p)).g D[k] ⟨⟨l,f.1⟩,u⟩).2;have K:alive es a.kn k=true:=Classical.byContradiction λe=>t (by rw[q.c1 k _ c,ύ e]);have S:=alive_mono E hyk K;have N:¬alive es cur.kn k=true:=λe=>by rw[F.c1 k _ c,ώ e,σ A]at v;cases v
  exact υ ⟨by rw[S];simpa using N,u⟩
end
theorem runs_uniq:∀{rs rs':List (Nat×Nat)},(∀r∈rs,1<=r.2)->(∀r∈rs',1<=r.2)->(∀j(h:j+1<rs.length),rs[j].1+rs[j].2≠rs[j+1].1)->(∀j(h:j+1<rs'.length),rs'[j].1+rs'[j].2≠rs'[j+1].1)->flatR rs=flatR rs'->rs=rs'
 | [],[],_,_,_,_,_=>rfl
 | [],(d,m)::t,_,h',_,_,e=>by have:=h' (d,m) Ω;have i:=congrArg List.length e;simp[flatR,runD]at i;omega
 | (d,m)::t,[],h,_,_,_,e=>by have:=h (d,m) Ω;have i:=congrArg List.length e;simp[flatR,runD]at i;omega
 | (d,m)::t,(d',m')::c,h,h',g,g',e=>by
  have w:1<=m:=h (d,m) Ω;have x:1<=m':=h' (d',m') Ω;have o:∀(d m:Nat)(t:List (Nat×Nat)),flatR ((d,m)::t)=runD (d,m)++flatR t:=λ_ _ _=>rfl;rw[o,o]at e;have f:∀(d m k:Nat)(t:List (Nat×Nat)),k<m->(runD (d,m)++flatR t)[k]?=some (d+k):=λd m k t q=>by rw[ε (by simp[runD];exact q)];simp[runD,q]
  have u:d=d':=by have a:=f d m 0 t w;rw[e,f d' m' 0 c x]at a;simp at a;omega
  subst u;have key:∀{m m':Nat}{t c:List (Nat×Nat)},(∀r∈t,1<=r.2)->(∀j(h:j+1<((d,m)::t).length),((d,m)::t)[j].1+((d,m)::t)[j].2≠((d,m)::t)[j+1].1)->runD (d,m)++flatR t=runD (d,m')++flatR c->¬m<m':=λ{m m' t c}ht g e hlt=>by
   have a:=f d m' m c hlt;rw[<- e,ϋ (by simp[runD])]at a;have v:(runD (d,m)).length=m:=by simp[runD]
   rw[v,Nat.sub_self]at a;cases t with
   | nil=>simp[flatR]at a
   | cons p t =>
    have A:=ht p Ω;have s:(flatR (p::t))[0]?=some p.1:=f p.1 p.2 0 t A;rw[s]at a;have n:=g 0 Ω;simp only[List.getElem_cons_zero,List.getElem_cons_succ]at n;injection a with a
    exact n a.symm
  have B:=key (λr b=>h r (by simp[b])) g e;have C:=key (λr b=>h' r (by simp[b])) g' e.symm;have y:m=m':=V
  subst y;rw[runs_uniq (rs:=t) (rs':=c) (λr b=>h r (by simp[b])) (λr b=>h' r (by simp[b])) (λj l=>g (j+1) (by simpa using l)) (λj l=>g' (j+1) (by simpa using l)) (List.append_cancel_left e)]
theorem srt_ext{l m:List Nat}(h:l.Pairwise (· < ·))(a:m.Pairwise (· < ·))(d:∀x,x∈l↔x∈m):l=m :=
 List.Perm.eq_of_pairwise (le:=(· < ·)) (λf g _ _ b c=>absurd c (Nat.lt_asymm b)) h a ((List.perm_ext_iff_of_nodup (h.imp (λh e=>V)) (a.imp (λh e=>V))).2 d)
theorem EncOf.runs{S:Nat->Prop}{C c:Nat->Option Thk.Ch}{rs rs':List (Nat×Nat)}{d its':List (Nat×Thk.Bs)}(h:EncOf S C rs d)(a:EncOf S c rs' its'):rs=rs' :=
 runs_uniq (λr b=>(h.ro r b).2.1) (λr b=>(a.ro r b).2.1) h.gap a.gap (srt_ext h.srt a.srt (λx=>by rw[h.fl,a.fl]))
theorem by_same{r:RD}{s f:ByteArray}{S:Nat->Prop}{C:Nat->Option Thk.Ch}(i:ByOf r s S C)(j:ByOf r f S C):s.size=f.size:=by
 obtain⟨_,rs,c,e,a⟩:=i;obtain⟨_,rs',its',k,b⟩:=j;have h:=a.runs b;obtain⟨H,t,u,v⟩:=a.il;obtain⟨K,w,A,B⟩:=b.il;have G:=items_same a b;have F:=items_same b a;have o:c.length=its'.length:=by
  have key:∀{rs rs':List (Nat×Nat)}{c its':List (Nat×Thk.Bs)},EncOf S C rs c->EncOf S C rs' its'->c.length<=its'.length:=λ{rs rs' c its'}a b=>by
   have:=nodup_le a.nd (m:=its'.map Prod.fst) (λE n=>by
    obtain⟨x,p,rfl⟩:=ι.1 n;obtain⟨D,l,_⟩:=a.tx x p;have d:itsC its' its'.length x.1≠none:=by rw[b.it];exact itOf_none.2 (by rw[l];simp)
    unfold itsC at d;rw[List.take_length]at d;cases hf:its'.reverse.find? (λy=>y.1==x.1) with
    | none=>rw[hf]at d;exact absurd rfl d
    | some y =>
     have e:y.1=x.1:=by simpa using List.find?_some hf
     exact ι.2 ⟨y,List.mem_reverse.1 (List.mem_of_find?_eq_some hf),e⟩)
   simpa using this
  exact Nat.le_antisymm (key a b) (key b a)
 have g:=toL_length s;have q:=toL_length f;rw[e,enc_sz]at g;rw[k,enc_sz]at q;rw[h,o]at g;omega
section
variable{es:List Ev}{D:List Nat}{n i:Nat}{P:Hs->Prop}{o:Nat->Hs}{cur:Hs}{r:RD}{L:LR}{H:List Nat}{ov:Nat}
theorem whole_len(h:HistR es D i P o cur r)(c:EvD es D n)(B:n<=6){rs:List (Nat×Nat)}{s:List (Nat×Thk.Bs)}(a:EncOf (fst r.K) r.C rs s):rs.length<=6/\s.length<=(aliveTo es cur.kn es.length).length:=by
 have f:=h.ok cur h.now;rw[<- h.cK,<- h.cC]at a;refine⟨?_, ?_⟩
 .obtain⟨g1,g2⟩:=starts a.srt (λr x=>(a.ro r x).2.1) a.gap;have:=nodup_le g1 (m:=(List.range 6).map λt=>t*512+1) (λj b=>by
   obtain⟨q,d,rfl⟩:=ι.1 b;have w:q.1∈flatR rs:=List.mem_flatMap.2 ⟨q,d,ι.2 ⟨0,List.mem_range.2 (a.ro q d).2.1,rfl⟩⟩;obtain⟨m1,m2⟩:=(a.fl _).1 w;have y:nth q.1=1:=Classical.byContradiction λA=>by
    refine g2 q d (by unfold nth at m1;omega) ((a.fl _).2 ?_);unfold fst nth who at *;have e:(q.1-1) / 512=q.1 / 512:=V
    exact⟨V,by rw[e];omega⟩
   have C:=(c.ok _ (f.mem m1 m2)).1;refine ι.2 ⟨who q.1,List.mem_range.2 V, ?_⟩;unfold nth who at *;omega)
  simpa using this
 .obtain⟨E,u,g,v⟩:=a.il;rw[v];refine dots_le (D:=D) u λj b=>?_;obtain⟨k,l,rfl⟩:=List.getElem_of_mem (f.alv c (g j b)).1;have p:D[k]?=some D[k]:=σ l;refine⟨k,by rw[<- c.len];exact l,p,Classical.byContradiction λe=>g _ b ?_⟩;rw[f.c1 k _ p,ύ e]
theorem slim_len(j:HistR es D i P o cur r)(m:EvD es D n)(hT:RepT n i r L H ov){l:Nat}{S:Nat->Prop}{C:Nat->Option Thk.Ch}(f:SlimS r l S C){rs:List (Nat×Nat)}{Q:List (Nat×Thk.Bs)}(g:EncOf S C rs Q){y:Hs}(N:P y)(a5:cnt y.kn<=r.A l):rs.length<=((List.range es.length).filter λk=>cur.kn.getD k false&&!y.kn.getD k false).length+((List.range es.length).filter λk=>alive es y.kn k&&!alive es cur.kn k).length/\Q.length<=((List.range es.length).filter λk=>cur.kn.getD k false&&!y.kn.getD k false).length:=by
 obtain⟨_,rfl,p1,_⟩:=f;obtain⟨s0,d1,d2,d3⟩:=j.dr;have key:∀{s:StD},s∈lackL l (r.A l) r.ps->∃b c,P b/\P c/\b.le c/\cnt y.kn<=cnt b.kn/\s.S=newH b c/\s.It=itOf (newHC b c):=λ{s}f=>by obtain⟨p,hp,rfl,u,_⟩:=lackL_mem f;obtain⟨k,F,rfl⟩:=List.getElem_of_mem hp;obtain⟨b,c,h,e,M⟩:=d3.at d1 k F;rw[d2]at M;exact⟨b,c,h,e.pb,e.le,ς a5 (hT.ahead F u M),e.s,e.it⟩
 refine⟨?_, ?_⟩
 .obtain⟨g1,_⟩:=starts g.srt (λr hr=>(g.ro r hr).2.1) g.gap;have:=dots_le (D:=D) (E:=es.length) (q:=λk=>(cur.kn.getD k false&&!y.kn.getD k false)||(alive es y.kn k&&!alive es cur.kn k)) g1 (λd t=>by
   obtain⟨q,G,rfl⟩:=ι.1 t;have u:q.1∈flatR rs:=List.mem_flatMap.2 ⟨q,G,ι.2 ⟨0,List.mem_range.2 (g.ro q G).2.1,rfl⟩⟩;obtain⟨m1,s,f,A⟩:=(g.fl _).1 u;obtain⟨b,c,h,e,a6,v,X,_⟩:=key f;rw[X]at A;obtain⟨k,w,x,a⟩:=piece_dot j m N h e a6 v m1 A;refine⟨k,w,x, ?_⟩;rcases a with a|⟨a,_⟩
   .simp only[a,Bool.true_or]
   .simp only[a,Bool.or_true])
  rw[List.length_map]at this;exact ς this (filt_or _ _ _)
 .obtain⟨ns,R,T,U⟩:=g.il;rw[U];refine dots_le (D:=D) R λd t=>?_;obtain⟨W,hc⟩:=Option.ne_none_iff_exists'.1 (T d t);obtain⟨⟨s,f,K⟩,_⟩:=p1 d (chV W) (by unfold itOf;rw[hc];rfl);obtain⟨b,c,h,e,a6,v,_,Y⟩:=key f;rw[Y]at K;obtain⟨c',a0,_⟩:=itOf_v K;obtain⟨a4,B⟩:=newHC_some a0;have Z:=((j.ok c e).alv m (d:=d) (by rw[B];simp)).2.1;obtain⟨k,w,x,a⟩:=piece_dot j m N h e a6 v Z a4;refine⟨k,w,x, ?_⟩;rcases a with a|⟨_,a⟩
  .exact a
  .rw[B]at a;cases a
theorem send_len(h:HistR es D i P o cur r)(u:EvD es D n)(K:n<=6)(E:RepT n i r L H ov){j:Nat}{b:ByteArray}(F:FrBy b r j):b.size<=200+80*(aliveTo es cur.kn es.length).length/\∀y,P y->cnt y.kn<=r.A j->r.dr<=r.A j->b.size<=80+80*(cnt cur.kn-cnt y.kn)+8*goneN (aliveTo es y.kn es.length) (aliveTo es cur.kn es.length):=by
 obtain⟨S,C,rs,c,a,f,m,G,_⟩:=F;have k:ByOf r b S C:=⟨f,rs,c,m,G⟩;have T:=h.ok cur h.now;have q0:=encN_len 0;have q1:=encN_len r.a;have q2:=encN_len (sizeK r.K);have x:∀{s:ByteArray}{rs:List (Nat×Nat)}{c:List (Nat×Thk.Bs)},toL s=sealL (encFm r.a (sizeK r.K) rs c)->s.size<=14+(rs.flatMap encR).length+(c.flatMap encI).length/\9+(c.flatMap encI).length<=s.size:=λ{s rs c}a=>by have Y:=toL_length s;rw[a,enc_sz]at Y;have:=encN_len rs.length;have:=encN_len c.length;omega
 have A:∀{s:ByteArray},ByOf r s (fst r.K) r.C->s.size<=50+35*(aliveTo es cur.kn es.length).length:=λ{s}a=>by obtain⟨f,rs,c,l,a0⟩:=a;obtain⟨Q,R⟩:=whole_len h u K a0;have:=(x l).1;have:=runs_short rs;have:=items_short a0 f;omega
 have w:∀{s:ByteArray}{S:Nat->Prop}{C:Nat->Option Thk.Ch},SlimS r j S C->ByOf r s S C->∀y,P y->cnt y.kn<=r.A j->s.size<=14+41*(cnt cur.kn-cnt y.kn)+6*goneN (aliveTo es y.kn es.length) (aliveTo es cur.kn es.length):=λ{s S C}a m y d g=>by obtain⟨f,rs,c,l,a0⟩:=m;obtain⟨Q,R⟩:=slim_len h u E a a0 d g;have U:=h.ok y d;have N:=filt_split (λp=>cur.kn.getD p false) (λp=>y.kn.getD p false) (h.top y d) (List.range es.length);rw[cnt_range _ _ U.len,cnt_range _ _ T.len]at N;rw[goneN_eq];have:=(x l).1;have:=runs_short rs;have:=items_short a0 f;omega
 rcases a with⟨rfl,rfl,M⟩|⟨a,W,X,q,t,B⟩
 .refine⟨by have:=A k;omega,λy d g v=>?_⟩;obtain⟨S',Z,W,X,q,t,B,z4⟩:=M v;have:=w q t y d g;have:=by_same k B;omega
 .have e:=by_same k q;exact⟨by have:=A t;omega,λy d g v=>by have:=w a k y d g;omega⟩
end
def FrL(es:List Ev)(rs:Nat->LR)(H:Nat->List Nat)(ov:Nat->Nat)(f:FrD)(x:LF):Prop :=
 f.bytes.size<=x.most/\(f.ack=0->(H f.src)[x.made]?=some (cnt f.known)/\x.lost<=(rs f.src).lost/\(x.lost=(rs f.src).lost->ov f.src<=x.made)/\(x.had=true->x.made<=(rs f.src).ak f.dst)/\x.al=aliveTo es f.known es.length)
structure LedT(s:Sl)(ds:List RepD)(H:Nat->List Nat)(ov:Nat->Nat):Prop where
 room:∀j(h:j<ds.length),ds[j].room=s.room
 rep:∀j(h:j<ds.length),RepT ds.length j ds[j] (s.rs j) (H j) (ov j)
 ln:s.ls.length=s.fs.length
 fr:∀(k:Nat)f x,s.fs[k]?=some f->s.ls[k]?=some x->FrL s.es s.rs H ov f x
section
variable{s:Sl}{ds:List RepD}{H:Nat->List Nat}{ov:Nat->Nat}
theorem LedT.turn(h:LedT s ds H ov){k:Nat}(F:k<ds.length){r':RD}{a:LR}{b:List Nat}{c:Nat}(C:RepT ds.length k r' a b c)(L:r'.room=ds[k].room)(B:∀(m:Nat)x,(H k)[m]?=some x->b[m]?=some x)(G:(s.rs k).lost<=a.lost)(K:a.lost=(s.rs k).lost->c=ov k)(D:∀j,(s.rs k).ak j<=a.ak j){es':List Ev}{kn':List (List Bool)}(E:∀f∈s.fs,f.ack=0->aliveTo es' f.known es'.length=aliveTo s.es f.known s.es.length):LedT ⟨⟨es',kn',s.fs⟩,s.room,updN s.rs k a,s.ls⟩ (ds.set k r') (updN H k b) (updN ov k c):=by
 refine⟨λj n=>?_,λj n=>?_,h.ln,λm f x t M=>?_⟩
 .have o:j<ds.length:=by simpa using n
  rw[List.getElem_set];by_cases e:k=j
  .subst e;rw[ώ rfl,L];exact h.room k F
  .rw[ύ e];exact h.room j o
 .have o:j<ds.length:=by simpa using n
  have key:RepT ds.length j (ds.set k r')[j] (updN s.rs k a j) (updN H k b j) (updN ov k c j):=by
   rw[List.getElem_set];by_cases e:k=j
   .subst e;rw[ώ rfl,updN_same,updN_same,updN_same];exact C
   .rw[ύ e,updN_oth _ _ (Ne.symm e),updN_oth _ _ (Ne.symm e),updN_oth _ _ (Ne.symm e)];exact h.rep j o
  have y:(ds.set k r').length=ds.length:=List.length_set;rw[<- y]at key;exact key
 .obtain⟨v,w⟩:=h.fr m f x t M;refine⟨v,λr=>?_⟩;obtain⟨d,g,i,l,p⟩:=w r;have u:=E f (List.mem_of_getElem? t) r;show(updN H k b f.src)[x.made]?=_/\x.lost<=(updN s.rs k a f.src).lost/\(x.lost=(updN s.rs k a f.src).lost->updN ov k c f.src<=x.made)/\(x.had=true->x.made<=(updN s.rs k a f.src).ak f.dst)/\x.al=aliveTo es' f.known es'.length;by_cases e:f.src=k
  .rw[e]at d g i l;rw[e,updN_same,updN_same,updN_same];refine⟨B _ _ d,ς g G,λq=>?_,λq=>ς (l q) (D _),by rw[u];exact p⟩;have A:x.lost=(s.rs k).lost:=V
   rw[K V];exact i A
  .rw[updN_oth _ _ e,updN_oth _ _ e,updN_oth _ _ e];exact⟨d,g,i,l,by rw[u];exact p⟩
theorem LedT.one(h:LedT s ds H ov){kn':List (List Bool)}{f:FrD}{x:LF}(j:FrL s.es s.rs H ov f x):LedT ⟨⟨s.es,kn',s.fs++[f]⟩,s.room,s.rs,s.ls++[x]⟩ ds H ov:=by
 have l:=h.ln;refine⟨h.room,h.rep,by simp[l],λm i y k p=>?_⟩;obtain⟨n,e⟩:=List.getElem?_eq_some_iff.1 (show(s.fs++[f])[m]?=some i from k);obtain⟨o,g⟩:=List.getElem?_eq_some_iff.1 (show(s.ls++[x])[m]?=some y from p);rcases app_get s.fs f m n with⟨c,a⟩|⟨c,a⟩<;>rcases app_get s.ls x m o with⟨d,b⟩|⟨d,b⟩
 .rw[<- e,a,<- g,b];exact h.fr m _ _ (σ c) (σ d)
 .omega
 .omega
 .rw[<- e,a,<- g,b];exact j
theorem LedT.hadd(h:LedT s ds H ov)(k:Nat)(o:∀f x,s.fs[k]?=some f->s.ls[k]?=some x->f.ack=0->x.made<=(s.rs f.src).ak f.dst):LedT ⟨s.1,s.room,s.rs,hadL s.ls k⟩ ds H ov:=by
 refine⟨h.room,h.rep,by show(hadL s.ls k).length=_;unfold hadL;rw[List.length_modify];exact h.ln,λm f x g p=>?_⟩;have a:(hadL s.ls k)[m]?=some x:=p;unfold hadL at a;rw[List.getElem?_modify]at a;cases hl:s.ls[m]? with
 | none=>rw[hl]at a;simp at a
 | some y =>
  rw[hl]at a;obtain⟨b,c⟩:=h.fr m f y g hl;by_cases e:k=m
  .subst e;simp at a;subst a;refine⟨b,λd=>?_⟩;obtain⟨i,j,l,q,n⟩:=c d;exact⟨i,j,l,λ_=>o f y g hl d,n⟩
  .simp[e]at a;subst a;exact⟨b,c⟩
theorem madeOf_some{a:List LF}{k:Nat}{x:LF}(h:a[k]?=some x):madeOf a k=x.made:=by unfold madeOf;rw[h];(first|done|rfl)
theorem LR.write_ak(a:Nat)(L:LR):(L.write a).ak=L.ak:=by unfold LR.write;split<;>rfl
theorem LedT.write(h:LedT s ds H ov){k:Nat}(a:k<ds.length){io co lo:Nat}{pv:Value}{fr:Nat}{st:StD}{K:Nat->Nat}{C:Nat->Option Thk.Ch}(i:sizeK ds[k].K<sizeK K){es':List Ev}{kn':List (List Bool)}(g:∀f∈s.fs,f.ack=0->aliveTo es' f.known es'.length=aliveTo s.es f.known s.es.length):∃e ov',LedT ⟨⟨es',kn',s.fs⟩,s.room,updN s.rs k ((s.rs k).write s.room),s.ls⟩ (ds.set k (ds[k].more io co lo pv fr st K C)) e ov':=by obtain⟨l,b,c,d⟩:=(h.rep k a).write (io:=io) (co:=co) (lo:=lo) (pv:=pv) (fr:=fr) (st:=st) (K:=K) (C:=C) i;rw[h.room k a]at b c d;exact⟨_,_,h.turn a b rfl (λm x=>get_app _) d c (λj=>by rw[LR.write_ak];exact χ _) g⟩
end
theorem alive_same{es:List Ev}{e:Ev}{a:List Bool}(h:a.length<=es.length):aliveTo (es++[e]) a (es++[e]).length=aliveTo es a es.length:=by
 unfold aliveTo;rw[ρ,List.length_singleton,List.range_succ,List.filter_append];have b:alive (es++[e]) a es.length=false:=by rw[Bool.eq_false_iff];intro c;have:=((alive_iff _ _ _).1 c).2.1;rw[getD_len h]at this;cases this
 rw[List.filter_cons_of_neg (by rw[b];simp),List.filter_nil,List.append_nil];exact List.filter_congr λk d=>alive_app h (List.mem_range.1 d)
section
variable{w w':World}{x:Nat}{S:Nat->Prop}{s:Sl}{q cap:Nat}{fv:Value}{ds:List RepD}{bs:List (Nat×ByteArray)}{D:List Nat}{P:Nat->Hs->Prop}{H:Nat->List Nat}{ov:Nat->Nat}
theorem CluF.knew(h:CluF w x S s.1 q cap fv ds bs D P){k:Nat}{f:FrD}(d:s.fs[k]?=some f)(e:f.ack=0):f.src<ds.length/\∃y,P f.src y/\y.kn=f.known/\f.known.length<=s.es.length:=by obtain⟨a,rfl⟩:=List.getElem?_eq_some_iff.1 d;obtain⟨_,_,_,f4,_,_,_,f8⟩:=h.frs k (by rw[h.blen];exact a) a;obtain⟨y,_,_,_,_,b,c,_⟩:=f8 V;exact⟨f4,y,b,c,by rw[<- c];exact((h.hist _ f4).ok y b).len⟩
theorem best_len(h:CluF w x S s.1 q cap fv ds bs D P)(l:LedT s ds H ov){k k':Nat}(d:k<ds.length)(L:k'<ds.length)(N:k≠k'){b:ByteArray}(F:FrBy b ds[k] k'):∀m,b.size<=bestTo s k k' m:=by
 have G:=curs_at s.1 ds k d;have a:=l.rep k d;obtain⟨n,o⟩:=send_len (h.hist k d) h.evd h.clu.len a F;rw[G]at n o;intro m;induction m with
 | zero=>exact n
 | succ m ih =>
  unfold bestTo;split
  .rename_i f y hf hy;split
   .rename_i hc2;obtain⟨i,v,A,B,C⟩:=hc2;refine Nat.le_min.2 ⟨ih, ?_⟩;obtain⟨Q,p,r,_⟩:=(h.knew hf i).2;obtain⟨e,t,g,c,u⟩:=(l.fr m f y hf hy).2 i;rw[v]at p e t g c;rw[A]at c;have M:y.made<=(s.rs k).ak k':=c B;have R:=g C;have E:=(get_le a.srt e (a.ack k')).1 M;have K:ds[k].dr<=ds[k].A k':=by
     refine(get_le a.srt a.dr (a.ack k')).1 ?_;rcases a.ovd with j|j
     .omega
     .exact j k' L (Ne.symm N)
    have:=o Q p (by rw[r];exact E) K;rw[r,<- u]at this;exact this
   .exact ih
  .exact ih
end
def ProgS(w:World)(x:Nat)(S:Nat->Prop)(s:Sl):Prop:=∃q cap fv ds bs D P H ov,CluF w x S s.1 q cap fv ds bs D P/\LedT s ds H ov
theorem prog_frameL:ProgFL ProgS:={
 stable:=by rintro M w w' x S s⟨q,cap,fv,ds,bs,D,P,H,ov,h,b⟩ c d;exact⟨q,cap,fv,ds,bs,D,P,H,ov,h.chg c d,b⟩
 tags:=by rintro w x S s k t⟨q,cap,fv,ds,bs,D,P,H,ov,h,_⟩ a e;exact h.tags a e
 lt:=by rintro w x S s k⟨q,cap,fv,ds,bs,D,P,H,ov,h,_⟩ a;exact h.lt a }
theorem frNo_at{s:St}{f:Int}{g:FrD}(h:frNo s f=some g):∃k:Nat,∃a:k<s.fs.length,f=(k:Int)+1/\s.fs[k]=g:=by
 unfold frNo at h;split at h
 .obtain⟨a,e⟩:=List.getElem?_eq_some_iff.1 h;exact⟨f.toNat-1,a,V,e⟩
 .cases h
theorem FrTie.seal{n:Nat}{h:List FrD}{P:Nat->Hs->Prop}{o:Nat->Hs}{b:Nat×ByteArray}{f:FrD}(i:FrTie n h P o b f):b.2=f.bytes/\b.1<n/\f.bytes.size<=700000/\(∃l,toL f.bytes=sealL l)/\(0<f.ack->f.bytes.size<=80):=by
 obtain⟨f1,f2,f3,f4,f5,f6,f7,f8⟩:=i;refine⟨f2,V,f6, ?_,λc=>?_⟩
 .by_cases c:0<f.ack
  .obtain⟨t,_,e,g,a,_⟩:=f7 c;exact⟨_,a⟩
  .obtain⟨x,S,C,rs,m,e,g,a,j,k⟩:=f8 c;exact⟨_,a⟩
 .obtain⟨t,_,e,g,a,_⟩:=f7 c;have d:=toL_length f.bytes;rw[a,sealL_len]at d;unfold encAm at d;have:=encN_len 1;have:=encN_len f.src;have:=encN_len (cnt t.kn);simp only[ρ]at d;omega
section
variable{w w':World}{x:Nat}{S:Nat->Prop}{s:Sl}{q cap:Nat}{fv:Value}{ds:List RepD}{bs:List (Nat×ByteArray)}{D:List Nat}{P:Nat->Hs->Prop}{H:Nat->List Nat}{ov:Nat->Nat}
theorem init_rep(rb c b a j d n:Nat):RepT n j (initR rb c b a j d n) ⟨0,0,[],λ_=>0⟩ [0] 0 :=
 ⟨rfl,Ω,rfl,rfl,χ _,rfl,rfl,rfl,λ_=>rfl,χ _,τ (χ _)⟩
theorem LedT.del(p:CluF w x S s.1 q cap fv ds bs D P)(c:LedT s ds H ov){f:Int}{s1:St}{S':Nat->Prop}{fv':Value}{o:List RepD}{bs':List (Nat×ByteArray)}{N:Nat->Hs->Prop}(a:DelTo s.1 f s1)(hF:CluF w' x S' s1 q cap fv' o bs' D N)(b:DelD s.1 f ds o):∃v,DelL s f v/\v.1=s1/\∃n ov',LedT v o n ov':=by
 obtain⟨a2,a5,a3⟩:=s1;have i:=a;unfold DelTo at a;unfold DelD at b;obtain⟨l,a⟩:=a;dsimp only at l a;subst l;cases hno:frNo s.1 f with
 | none =>rw[hno]at a b;dsimp only at a b;obtain⟨rfl,rfl⟩:=a;subst b;exact⟨s,⟨i,rfl,by rw[hno];exact⟨rfl,rfl⟩⟩,rfl,H,ov,c⟩
 | some g =>
  rw[hno]at a b;dsimp only at a b;by_cases d:0<g.ack
  .rw[ώ (τ d)]at a;rw[ώ d]at b;obtain⟨rfl,rfl⟩:=a;obtain⟨g0,g1,g2,g3,R,j,rfl⟩:=b;have t:=(List.getElem?_eq_some_iff.1 g1).1;have m:s.ls[g.ack-1]?=some (s.ls[g.ack-1]'(by rw[c.ln];exact t)):=σ _;generalize s.ls[g.ack-1]'(by rw[c.ln];exact t)=x0 at m;have Y:=madeOf_some m;obtain⟨y,b2,b3,b4,b5⟩:=(c.fr _ g0 x0 g1 m).2 R;rw[g2]at y;have U:=(c.rep g.dst j).acked g.src y;have r:=c.turn (es':=s.es) (kn':=s.kn) j U rfl (λ_ _ p=>p) (χ _) (λ_=>rfl) (λu=>by
    show(s.rs g.dst).ak u<=updN (s.rs g.dst).ak g.src (max ((s.rs g.dst).ak g.src) x0.made) u;by_cases k:u=g.src
    .rw[k,updN_same];omega
    .rw[updN_oth _ _ k];exact χ _) (λ_ _ _=>rfl)
   have T:=r.hadd (g.ack-1) (λf2 G W a1 A=>by have l:f2=g0:=Option.some.inj ((show s.fs[g.ack-1]?=some f2 from W).symm.trans g1);have Q:G=x0:=Option.some.inj ((show s.ls[g.ack-1]?=some G from a1).symm.trans m);rw[l,Q,g2,g3];show x0.made<=(updN s.rs g.dst ((s.rs g.dst).ackd g.src x0.made) g.dst).ak g.src;rw[updN_same];show x0.made<=updN (s.rs g.dst).ak g.src (max ((s.rs g.dst).ak g.src) x0.made) g.src;rw[updN_same];omega);refine⟨⟨⟨s.es,s.kn,s.fs⟩,s.room,updN s.rs g.dst ((s.rs g.dst).ackd g.src x0.made),hadL s.ls (g.ack-1)⟩,⟨i,rfl, ?_⟩,rfl,_,_,T⟩;rw[hno];dsimp only;rw[ώ d,Y];exact⟨rfl,rfl⟩
  .by_cases e:500<=s.fs.length
   .rw[ώ (υ e)]at a;rw[ύ d,ώ e]at b;obtain⟨rfl,rfl⟩:=a;subst b;exact⟨s,⟨i,rfl,by rw[hno];dsimp only;rw[ύ d,ώ e];exact⟨rfl,rfl⟩⟩,rfl,H,ov,c⟩
   .rw[ύ V]at a;rw[ύ d,ύ e]at b;obtain⟨rfl,h,rfl⟩:=a;have X:=hF.blen;obtain⟨k0,t,a4,_⟩:=frNo_at hno;have hz:h.size<=80:=by
     have E:s.fs.length<(s.fs++[(⟨g.dst,g.src,f.toNat,[],h⟩:FrD)]).length:=Ω
     have:=(hF.frs s.fs.length (by rw[X];exact E) E).seal.2.2.2.2;have k:(s.fs++[(⟨g.dst,g.src,f.toNat,[],h⟩:FrD)])[s.fs.length]=⟨g.dst,g.src,f.toNat,[],h⟩:=Ω
     rw[k]at this;exact this (by show 0<f.toNat;omega)
    have B:∀rs H ov,FrL s.es rs H ov ⟨g.dst,g.src,f.toNat,[],h⟩ ⟨0,0,false,80,[]⟩:=λrs H ov=>⟨hz,λA=>by have:f.toNat=0:=A;omega⟩;rcases b with⟨Z,rfl⟩|⟨F,j,io,co,lo,pv,st,M,L,rfl,a0⟩
    .refine⟨⟨⟨s.es,_,_⟩,s.room,s.rs,s.ls++[⟨0,0,false,80,[]⟩]⟩,⟨i,rfl, ?_⟩,rfl,H,ov,c.one (B _ _ _)⟩;rw[hno];dsimp only;rw[ύ d,ύ e,ύ Z];exact⟨rfl,rfl⟩
    .obtain⟨n,ov',r⟩:=c.write j (io:=io) (co:=co) (lo:=lo) (pv:=pv) (fr:=g.src) (st:=st) (K:=M) (C:=L) (by rw[a0,<- p.size _ j];exact F) (es':=s.es) (kn':=s.kn) (λ_ _ _=>rfl);refine⟨⟨⟨s.es,_,_⟩,s.room,updN s.rs g.dst ((s.rs g.dst).write s.room),s.ls++[⟨0,0,false,80,[]⟩]⟩,⟨i,rfl, ?_⟩,rfl,n,ov',r.one (B _ _ _)⟩;rw[hno];dsimp only;rw[ύ d,ύ e,ώ F];exact⟨rfl,rfl⟩
end
theorem prog_okL:ProgL ProgS:={
 bad:=by intro w r room _ h;refine ψ (New_bad r room w h) ?_;rintro b6 w'⟨rfl,rfl⟩;exact⟨rfl,φ _ _⟩
 good:=by
  intro w r room az L h6 ag;have m:4<=w.heap.size:=az.size;refine ψ (New_good r room w az L h6 ag) ?_;rintro b6 w'⟨rv,ds,rfl,b0,hN⟩;subst b0;obtain⟨q,cap,rfl,hq,aw⟩:=hN.done m L h6 rfl;have a2:∀j(h:j<ds.length),∃Y X R Q,ds[j]=initR Y X R Q j room ds.length:=λj h=>(hN.rep j h).2.1;have aa:∀j,curs ⟨[],List.replicate ds.length [],[]⟩ ds j=⟨[],λ_=>0,λ_=>none⟩:=λj=>by
   unfold curs;have h9:(List.replicate ds.length ([]:List Bool)).getD j []=[]:=by
    by_cases p:j<ds.length
    .simp[p]
    .rw[ξ,List.getElem?_eq_none Θ];(first|done|rfl)
   show Hs.mk ((List.replicate ds.length ([]:List Bool)).getD j []) _ _=_;rw[h9];by_cases p:j<ds.length
   .obtain⟨Y,X,R,Q,G⟩:=a2 j p;rw[σ p,G];rfl
   .rw[List.getElem?_eq_none V];(first|done|rfl)
  refine⟨w.heap.size,ownS w.heap.size q (.slice none 0 0) ds,rfl,⟨q,cap,.slice none 0 0,ds,[],[],λ_ y=>y=⟨[],λ_=>0,λ_=>none⟩,λ_=>[0],λ_=>0,⟨aw,λk=>Iff.rfl,by simp[st0],⟨rfl,List.Pairwise.nil,λd h=>absurd h Ω⟩,λj p=>?_,λj p d h=>absurd h Ω, ?_,by simp[st0],λb6 he=>absurd he (by simp[st0]),rfl,λj h=>absurd h Ω⟩,λj p=>?_,λj p=>?_,rfl,λk f x F=>absurd F (by simp[st0])⟩,λk b=>?_,hN.bel⟩
  .show HistR [] [] j _ (curs ⟨[],List.replicate ds.length [],[]⟩ ds) (curs ⟨[],List.replicate ds.length [],[]⟩ ds j) ds[j];rw[aa j];obtain⟨Y,X,R,Q,G⟩:=a2 j p;rw[G];refine⟨λy hy=>by subst hy;exact Kn.nil,⟨_,rfl,rfl⟩,rfl,rfl,rfl,λy y' hy ak _=>by subst hy;subst ak;exact Hs.le.refl _,λy hy=>by subst hy;exact Hs.le.refl _,⟨_,rfl,rfl,rfl⟩,λi=>⟨_,rfl,rfl,by rw[aa i];exact Hs.le.refl _⟩⟩
  .have hz:∀v,sumN ds v=0:=λv=>by
    induction v with
    | zero=>rfl
    | succ v ih =>
     rw[sumN,ih];unfold ownN;by_cases hm:v<ds.length
     .obtain⟨Y,X,R,Q,G⟩:=a2 v hm;rw[σ hm,G];rfl
     .rw[List.getElem?_eq_none V];(first|done|rfl)
   rw[hz];(first|done|rfl)
  .obtain⟨Y,X,R,Q,G⟩:=a2 j p;rw[G];(first|done|rfl)
  .obtain⟨Y,X,R,Q,G⟩:=a2 j p;rw[G];exact init_rep _ _ _ _ _ _ _
  .rcases b with rfl|rfl|b|⟨j,p,ho⟩
   .exact χ _
   .exact hq
   .cases b
   .exact(hN.rep j p).2.2 k ho
 does:=by
  rintro w x S s i t r⟨⟨es',kn',an⟩,ar,rs',aq⟩ az ⟨q,cap,fv,ds,bs,D,P,H,ov,h,av⟩ hs ⟨hd,e,e2,e3,e4⟩;dsimp only at hd e e2 e3 e4;subst e e2 e3 e4;refine ψ (CDo_any w az x q cap fv ds bs h.clu i t hs (λk b c b0 hl=>(h.doB b0 b (by rw[<- h.sum];exact hl)).2.2.1)) ?_;rintro b6 w'⟨r',a3,rfl,N,aw,o⟩;have a0:Chg S w w':=h.sc o;have ax:=h.len;have ap:=h.sum;have kp:∀{r:Int},r≠0->CluP w' x q cap fv 0 ds bs->∃A,ProgS w' x A ⟨⟨s.es,s.kn,s.fs⟩,s.room,if r=0 then updN s.rs i.toNat ((s.rs i.toNat).write s.room)else s.rs,s.ls⟩/\(∀k,A k->S k\/w.heap.size<=k)/\Chg S w w':=λb0 aw=>⟨S,by rw[ύ b0];exact⟨q,cap,fv,ds,bs,D,P,H,ov,h.keep aw,av⟩,λk b=>τ b,a0⟩;rcases N with⟨g,rfl,rfl⟩|⟨v,g,b0,rfl,rfl⟩|⟨c,g,b0,hl,rfl,rfl⟩|⟨c,k,b,r2,rfl,b0,hl,hM,rfl,rfl⟩ <;>
   rcases hd with⟨E,rfl,rfl,rfl⟩|⟨k',E,m,rfl,rfl,rfl⟩|⟨c',E,m,h5,rfl,rfl,rfl⟩|⟨c',e',E,m,h5,b1,b2,b3,b4,b5,rfl,rfl,rfl⟩
  .exact⟨rfl,kp Ψ aw⟩
  .exact absurd E (by rw[ax];exact g)
  .exact absurd E (by rw[ax];exact g)
  .exact absurd E (by rw[ax];exact g)
  .exact absurd (by rw[ax];exact g) E
  .have:=(Thk.read_err _ _ b0).1;rw[b0]at m;cases m;exact⟨rfl,kp V aw⟩
  .rw[b0]at m;cases m
  .rw[b0]at m;cases m
  .exact absurd (by rw[ax];exact g) E
  .rw[b0]at m;cases m
  .exact⟨rfl,kp Ψ aw⟩
  .omega
  .exact absurd (by rw[ax];omega) E
  .rw[b0]at m;cases m
  .omega
  .rw[b0]at m;cases m
   obtain⟨A,D',P',h6,h7⟩:=h.done b0 b h5 b1 b2 b3 b4 b5 hM aw;obtain⟨io,co,lo,st,pv,rfl,_⟩:=hM;have af:=h6.size k (by simpa using b);have ao:=h.size k b;have ai:sizeK ds[k].K<sizeK (inc ds[k].K k):=by
    have G:((s.kn.set k (moreOf (s.kn.getD k []) s.es.length)).getD k [])=moreOf (s.kn.getD k []) s.es.length:=by rw[getD_set _ _ (by rw[ax];exact b),ώ rfl]
    rw[List.getElem_set,ώ rfl]at af;have e8:cnt ((s.kn.set k (moreOf (s.kn.getD k []) s.es.length)).getD k [])=sizeK (inc ds[k].K k):=af;rw[G,cnt_more]at e8;omega
   obtain⟨H',a7,h8⟩:=av.write b (io:=io) (co:=co) (lo:=lo) (pv:=pv) (fr:=k) (st:=st) (C:=stepC ds[k].C c (mkD k (ds[k].K k+1))) ai (es':=s.es++[e']) (kn':=s.kn.set k (moreOf (s.kn.getD k []) s.es.length)) (λf F h0=>by obtain⟨v,hm⟩:=List.mem_iff_getElem?.1 F;obtain⟨_,y,_,_,al⟩:=h.knew hm h0;exact alive_same al);exact⟨rfl,A,by rw[ώ rfl];exact⟨q,cap,fv,_,bs,D',P',H',a7,h6,h8⟩,h7,a0⟩
 asks:=by rintro w x S s i t az⟨q,cap,fv,ds,bs,D,P,H,ov,h,av⟩ hs;refine ψ (h.asks az i t hs) ?_;rintro b6 w'⟨u,rfl,hu,aw,o⟩;exact⟨u,rfl,hu,S,⟨q,cap,fv,ds,bs,D,P,H,ov,h.keep aw,av⟩,λk b=>τ b,h.sx o⟩
 knows:=by rintro w x S s i az⟨q,cap,fv,ds,bs,D,P,H,ov,h,av⟩;refine ψ (h.knows i) ?_;rintro b6 w'⟨rfl,aw,o⟩;exact⟨rfl,S,⟨q,cap,fv,ds,bs,D,P,H,ov,h.keep aw,av⟩,λk b=>τ b,h.sx o⟩
 sends:=by
  rintro w x S s i j az⟨q,cap,fv,ds,bs,D,P,H,ov,h,av⟩;refine ψ (CSend_any w az x q cap fv ds bs h.clu (λj p=>⟨(h.hist j p).pcOK h.evd h.clu.len h.e500 h.src,by have L:=h.size j p;have T:=cnt_len (s.kn.getD j []);have E:=(h.tie j p).len;have m:=h.e500;omega⟩) i j) ?_;rintro b6 w'⟨n,r,a9,a4,rfl,N,aw,o,hn⟩;have ax:=h.len;have W:=h.blen;have a0:Chg S w w':=o.wide (λk b=>(h.own k).2 (b.elim τ (λb=>υ (υ (τ b)))));have a8:∀{Z:Value}{a:Int},sendR s.1 i j=(0,a)->a≠0->CluP w' x q cap Z 0 ds bs->(∀K,Z.ownBlock=some K->fv.ownBlock=some K\/w.heap.size<=K)->∃A s',SendL s i j s'/\ProgS w' x A s'/\(∀K,A K->S K\/w.heap.size<=K)/\Chg S w w':=λ{Z a}he h0 hC2 hn2=>⟨ownS x q Z ds,s,⟨⟨rfl,rfl,by rw[he,ύ h0]⟩,rfl,rfl,by rw[he,ύ h0]⟩,⟨q,cap,Z,ds,bs,D,P,H,ov,⟨hC2,λK=>Iff.rfl,h.len,h.evd,h.hist,h.mine,h.sum,h.e500,h.src,h.blen,h.frs⟩,av⟩,h.ownN hn2,a0⟩;rcases N with⟨g,rfl,rfl,rfl⟩|⟨g,a1,rfl,rfl,rfl⟩|⟨g,a1,h5,rfl,rfl,rfl⟩|⟨k,k',b,B,rfl,rfl,ac,a1,h5,rfl,rfl,rfl,U⟩
  .have e:sendR s.1 i j=(0,2):=by unfold sendR;rw[ύ (by rw[ax];exact g)]
   exact⟨by rw[e],a8 e Ψ aw hn⟩
  .have e:sendR s.1 i j=(0,1):=by unfold sendR;rw[ώ (by rw[ax];exact g),ώ a1]
   exact⟨by rw[e],a8 e Ψ aw hn⟩
  .have e:sendR s.1 i j=(0,7):=by unfold sendR;rw[ώ (by rw[ax];exact g),ύ a1,ώ V]
   exact⟨by rw[e],a8 e Ψ aw hn⟩
  .have e:sendR s.1 (k:Int) (k':Int)=(((bs.length+1:Nat):Int),0):=by unfold sendR;rw[ώ (by rw[ax];omega),ύ a1,ύ V,W];(first|done|rfl)
   have ae:k≠k':=V
   obtain⟨A,h7,h8⟩:=h.sent b ac ae U aw hn;have hR:=av.rep k b;have F:FrL s.es s.rs H ov ⟨k,k',0,s.kn.getD k [],B⟩ (newL s k k'):=⟨best_len h av b ac ae U _,λ_=>⟨by show(H k)[(s.rs k).made]?=some (cnt (s.kn.getD k []));rw[h.size k b];exact hR.top,χ _,λ_=>hR.ovl,λh9=>(by cases h9),rfl⟩⟩;exact⟨by rw[e],A,⟨⟨s.es,s.kn,s.fs++[⟨k,k',0,s.kn.getD k [],B⟩]⟩,s.room,s.rs,s.ls++[newL s k k']⟩,⟨⟨rfl,rfl,by rw[e,ώ rfl];exact⟨B,rfl⟩⟩,rfl,rfl,by rw[e,ώ rfl];rfl⟩,⟨q,cap,a4,ds,_,D,P,H,ov,h7,av.one F⟩,h8,a0⟩
 frame:=by
  rintro w x S s f az⟨q,cap,fv,ds,bs,D,P,H,ov,h,av⟩;refine ψ (CFrame_any w x q cap fv ds bs h.clu h.bsz f) ?_;rintro b6 w'⟨rfl,aw,o⟩;have W:=h.blen;have M:frameD bs f=frameR s.1 f:=by
   unfold frameD frameR frNo;by_cases F:1<=f/\f<=bs.length
   .rw[ώ F,ώ (by rw[<- W];exact F)];have L:f.toNat-1<bs.length:=V
    have T:f.toNat-1<s.fs.length:=V
    obtain⟨_,f2,_⟩:=h.frs _ L T;rw[σ L,σ T];simp only[Option.map_some,Option.getD_some];rw[f2]
   .rw[ύ F,ύ (by rw[<- W];exact F)]
  exact⟨by rw[M],S,⟨q,cap,fv,ds,bs,D,P,H,ov,h.keep aw,av⟩,λk b=>τ b,h.sx o⟩
 dels:=by rintro w x S s f az⟨q,cap,fv,ds,bs,D,P,H,ov,h,av⟩;refine ψ (h.dels az f) ?_;rintro b6 w'⟨rfl,A,s1,a4,a3,a9,P',L,T,N,E,m⟩;obtain⟨s',d1,rfl,H',a7,d2⟩:=av.del h L T N;exact⟨rfl,A,s',d1,⟨q,cap,a4,a3,a9,D,P',H',a7,T,d2⟩,E,m⟩
 spoils:=by
  rintro w x S s f B az⟨q,cap,fv,ds,bs,D,P,H,ov,h,av⟩;have M:∀{a:Int},spoilR s.1 f B=a->(Calls Tryz.prog 30 #[.pointer (some (z x)),.int .i64 f,.int .i64 B] w λb6 w'=>b6=.returned (.int .i64 a)/\CluP w' x q cap fv 0 ds bs/\Chg (λk=>k=x) w w')->Calls Tryz.prog 30 #[.pointer (some (z x)),.int .i64 f,.int .i64 B] w λb6 w'=>b6=.returned (.int .i64 (spoilR s.1 f B))/\∃A,ProgS w' x A s/\(∀k,A k->S k\/w.heap.size<=k)/\Chg S w w':=λ{a}e o=>by rw[e];refine ψ o ?_;rintro b6 w'⟨rfl,aw,o⟩;exact⟨rfl,S,⟨q,cap,fv,ds,bs,D,P,H,ov,h.keep aw,av⟩,λk b=>τ b,h.sx o⟩
  have W:=h.blen;cases hno:frNo s.1 f with
  | none =>refine M (a:=9) (by unfold spoilR;rw[hno]) (CSpoil_bad w x q cap fv ds bs h.clu f B λF=>?_);unfold frNo at hno;rw[ώ (by rw[<- W];exact F)]at hno;have:=List.getElem?_eq_none_iff.1 hno;omega
  | some K =>
   obtain⟨k,b,rfl,rfl⟩:=frNo_at hno;have a5:k<bs.length:=V
   obtain⟨e,e2,e3,⟨l,e4⟩,_⟩:=(h.frs k a5 b).seal;by_cases U:B<0\/8*(s.fs[k].bytes.size:Int)<=B
   .exact M (a:=1) (by unfold spoilR;rw[hno];exact ώ U) (CSpoil_arg w x q cap fv ds bs h.clu k a5 B (by rw[e];exact U) (by rw[e];omega))
   .refine M (a:=9) (by unfold spoilR;rw[hno];exact ύ U) ?_;obtain⟨v,rfl⟩:∃v:Nat,B=(v:Int):=⟨B.toNat,V⟩;have:=CSpoil_of w x q cap fv ds bs h.clu k a5 (v / 8) (v % 8) (by rw[toL_length,e];omega) V l (by rw[e];exact e4) (by rw[e];exact e3) e2;rw[(V:v / 8*8+v % 8=v)]at this;exact this
 waits:=by
  rintro w x S s i az⟨q,cap,fv,ds,bs,D,P,H,ov,h,av⟩;refine ψ (CWaiting_any w x q cap fv ds bs h.clu i) ?_;rintro b6 w'⟨rfl,aw,o⟩;have ax:=h.len;have M:waitD ds i=waitR s i:=by
   unfold waitD waitR;by_cases g:0<=i/\i<ds.length
   .rw[ώ g,ώ (by rw[ax];exact g)];have b:i.toNat<ds.length:=V
    rw[σ b,(av.rep _ b).kept,List.length_range'];rfl
   .rw[ύ g,ύ (by rw[ax];exact g)]
  exact⟨by rw[M],S,⟨q,cap,fv,ds,bs,D,P,H,ov,h.keep aw,av⟩,λk b=>τ b,h.sx o⟩
 ticks:=by
  rintro w x S s i az⟨q,cap,fv,ds,bs,D,P,H,ov,h,av⟩;refine ψ (CTick_any w az x q cap fv ds bs h.clu i) ?_;rintro b6 w'⟨a3,rfl,N,aw,o⟩;have ax:=h.len;have M:namedR ds.length i=upR s.kn i:=by unfold namedR upR;rw[ax]
  rcases N with⟨g,rfl⟩|⟨k,b,r',rfl,aj,a6,rfl⟩
  .exact⟨by rw[M],S,by unfold tickTo;rw[ύ (by rw[ax];exact g)];exact⟨q,cap,fv,a3,bs,D,P,H,ov,h.keep aw,av⟩,λk b=>τ b,h.sc o⟩
  .have hH:=(h.hist k b).ticked a6;have hR:=(av.rep k b).ticked (h.clu.ra k b).2.2 a6;have hK:r'.K=ds[k].K/\r'.C=ds[k].C/\r'.room=ds[k].room:=by obtain⟨pv,rfl⟩:=a6;exact⟨rfl,rfl,rfl⟩
   have hF:=h.same b hK.1 hK.2.1 hH aw;have L:=av.turn (es':=s.es) (kn':=s.kn) b hR hK.2.2 (λ_ _ h=>h) (χ _) (λ_=>rfl) (λj=>χ _) (λ_ _ _=>rfl);refine⟨by rw[M],_, ?_,h.ownR b aj (λK hg=>τ hg),h.sc o⟩;unfold tickTo;rw[ώ (by rw[ax];omega),ax];exact⟨q,cap,fv,_,bs,D,P,_,_,hF,L⟩
 fsz:=by
  rintro w x S s f K⟨q,cap,fv,ds,bs,D,P,H,ov,h,av⟩ hg;obtain⟨k,b,rfl,rfl⟩:=frNo_at hg;have L:=(h.frs k (by rw[h.blen];exact b) b).seal.2.2.1;have ad:k<s.ls.length:=by rw[av.ln];exact b
  refine⟨V,s.ls[k],by rw[show((k:Int)+1).toNat-1=k by omega];exact σ ad,(av.fr k _ _ (σ b) (σ ad)).1⟩
 flen:=by rintro w x S s⟨q,cap,fv,ds,bs,D,P,H,ov,h,av⟩;have:=h.clu.b500;have:=h.blen;omega }
