import Derived.Test.YtfmmllpjgkgeaabGreatDoorZ14
import Derived.Test.YtfmmllpjgkgeaabGreatDoorZ15
import Derived.Test.YtfmmllpjgkgeaabGreatDoorZ16
import Derived.Test.YtfmmllpjgkgeaabGreatDoorZ47
set_option linter.all false
set_option maxHeartbeats 0
set_option maxRecDepth 100000
namespace Go.Proofs.YtfmmllpjgkgeaabGreatDoor
section
open Go.RowKit
variable{av:Nat->Value}{w:World}
def bD.aE2{c rb:Nat}{aY fv:Value}{n:Nat}{l:List Ev}{k:Nat}{I:Nat->Prop}{b a:Nat->LR}{ah:List (List Bool)}(h:bD w c rb aY fv av n l k ⟨I,b⟩ ah)(g:∀j,∃f,a j=⟨(b j).made,(b j).lost,(b j).kept,f,(b j).arm,(b j).dn⟩):bD w c rb aY fv av n l k ⟨I,a⟩ ah :=
 ⟨h.tc,h.jr,h.pV,h.n6,h.oH,h.f0,h.f1,h.f2,h.f3,h.Ol,λi=>by obtain⟨f,e⟩:=g i;show(a i).made<=_/\(a i).lost<=_/\(a i).kept.length<=_;rw[e];exact h.wJ i,h.evs,h.ok,λi y=>by obtain⟨f,e⟩:=g i;show Ip _ _ _ _ _ (a i);rw[e];obtain⟨o,p,s,u,q,r,A,t,v⟩:=h.kX i y;exact⟨o,p,s,u,q,r,A,t,v⟩,h.kn,h.f4,h.a11,h.ib,λi d x=>by obtain⟨f,e⟩:=g i;exact h.dl i d (by have m:(a i).dn=some d:=x;rw[e]at m;exact m)⟩
structure aw2(s:Sl):Prop where
 f500:s.fs.length<=500
 src:∀f∈s.fs,f.src<s.kn.length/\f.dst<s.kn.length/\f.ack<=s.fs.length/\f.known.length<=s.es.length
 cnt:∀f∈s.fs,f.ack=0->cnt f.known<=cnt (s.kn.getD f.src [])
def EH(w:World)(av:Nat->Value)(n:Nat)(ab:Nat->Nat)(rs:Nat->LR):Prop:=∀i,i<n->av i=.slice (some (z (ab i))) n n/\aI 3 w (av i) (ints (bW ((List.range n).map (rs i).ak)))
def EH.tag{n:Nat}{ab:Nat->Nat}{rs:Nat->LR}(h:EH w av n ab rs)(i:Nat)(e:i<n):Tagged w (ab i) 3:=by
 obtain⟨d,b⟩:=h i e;rw[d]at b;rcases b with⟨a,_⟩|⟨f,j,g,a,_,c,_⟩
 .cases a
 .simp only[ϑa,ϑb,ϑz]at a;obtain⟨⟨a,_⟩,_⟩:=a;rw[a];exact c
def EH.aJ{M:Nat->Prop}{w':World}{n:Nat}{ab:Nat->Nat}{rs rs':Nat->LR}(h:EH w av n ab rs)(j:aA M w w')(k:∀i,i<n->¬M (ab i))(l:∀i,(rs' i).ak=(rs i).ak):EH w' av n ab rs':=λi c=>by obtain⟨a,d⟩:=h i c;refine⟨a, ?_⟩;rw[l i];have f:wI (λb=>b=ab i) w (av i) ((List.range n).map (rs i).ak):=⟨d,λb p o m e=>by rw[a]at e;cases e;rfl⟩;exact(f.aJ j (λb g=>by rw[g];exact k i c) (I':=λb=>b=ab i) (λ_ h=>h)).1
structure uz(w:World)(c:Nat)(R:Nat->Prop)(s:Sl)(rb:Nat)(aY fv:Value)(av:Nat->Value)(ab:Nat->Nat)(I:Nat->Prop):Prop where
 r:bD w c rb aY fv av s.room s.es s.acc ⟨I,s.rs⟩ s.kn
 f:iZ I w fv s.fs s.ls
 a:EH w av s.kn.length ab s.rs
 d:(∀i j,i<s.kn.length->j<s.kn.length->i≠j->ab i≠ab j)/\∀i,i<s.kn.length->¬I (ab i)
 i:aw2 s
 own:∀k,R k↔k=c\/k=rb\/aY.ownBlock=some k\/fv.ownBlock=some k\/(∃j,j<s.kn.length/\ab j=k)\/I k
def EI(w:World)(c:Nat)(R:Nat->Prop)(s:Sl):Prop:=∃rb aY fv av ab I,uz w c R s rb aY fv av ab I
def zU(c rb:Nat)(aY fv:Value)(n:Nat)(ab:Nat->Nat)(I:Nat->Prop)(k:Nat):Prop:=k=c\/k=rb\/aY.ownBlock=some k\/fv.ownBlock=some k\/(∃j,j<n/\ab j=k)\/I k
def vg:aQ EI:={
 stable:=by rintro M w w' c R s⟨rb,aY,fv,av,ab,I,h⟩ e l d;have b:=λk a=>l k ((h.own k).2 a);have g:=λi d=>b i (υ (υ (υ (υ (υ d)))));exact⟨rb,aY,fv,av,ab,I,h.r.aJ e (b _ (τ rfl)) (b _ (υ (τ rfl))) (λj f=>b _ (υ (υ (τ f)))) d g,h.f.aJ e (λj f=>b _ (υ (υ (υ (τ f))))) d g (λ_ h=>h),h.a.aJ e (λo m=>b _ (υ (υ (υ (υ (τ ⟨o,m,rfl⟩)))))) (λ_=>rfl),h.d,h.i,h.own⟩
 tags:=by
  rintro w c R s k⟨rb,aY,fv,av,ab,I,h⟩ a;rcases(h.own k).1 a with rfl|rfl|a|a|⟨p,n,rfl⟩|a
  .exact⟨_,τ rfl,h.r.tc⟩
  .exact⟨_,υ (τ rfl),h.r.jr⟩
  .exact⟨_,υ (υ (τ rfl)),(h.r.zi k a).2⟩
  .exact⟨_,υ (υ (υ (τ rfl))),h.f.tag k a⟩
  .exact⟨_,υ (υ (υ (υ rfl))),h.a.tag p n⟩
  .exact⟨_,υ (υ (υ (υ rfl))),h.r.ib k a⟩ }
def RQ:EF EI:={
 good:=by
  intro r F w t v u;refine ψ (Kt r F w t v u) ?_;rintro n w'⟨rb,c,rfl,B,x,q,G,y,C⟩;have k:∀i,(a:i<r)->c.getD i .nilFunc=c[i]'V:=λi a=>by rw[ξ,σ V];(first|done|rfl)
  have o:∀i,i<r->∃m,c.getD i .nilFunc=.slice (some (z m)) r r/\w.heap.size<=m/\aI 3 w' (c.getD i .nilFunc) (ints (bW (List.replicate r 0))):=λi a=>by rw[k i a];exact x _ (κ _)
  obtain⟨ab,e⟩:∃ab:Nat->Nat,∀i,i<r->c.getD i .nilFunc=.slice (some (z (ab i))) r r/\w.heap.size<=ab i/\aI 3 w' (c.getD i .nilFunc) (ints (bW (List.replicate r 0))) :=
   ⟨λi=>if h:i<r then(o i h).choose else 0,λi a=>by simp only[a,dite_true];exact(o i a).choose_spec⟩
  have D:(List.range r).map (λ_:Nat=>0)=List.replicate r 0:=by rw[List.map_const',List.length_range]
  refine⟨w.heap.size,zU w.heap.size rb (.slice none 0 0) (.slice none 0 0) (List.replicate r ([]:List Bool)).length ab (λ_=>False),rfl,⟨rb,.slice none 0 0,.slice none 0 0,λi=>c.getD i .nilFunc,ab,λ_=>False,B,iZ.nil _ w',λi a=>?_,⟨λi j a l A n=>?_,λ_ _ h=>h⟩,⟨by simp[st0],λs g=>absurd g (by simp[st0]),λs g=>absurd g (by simp[st0])⟩,λE=>Iff.rfl⟩,λE b=>?_,y⟩
  .have f:i<r:=by simpa[st0]using a
   obtain⟨g1,_,g3⟩:=e i f;simp only[st0,List.length_replicate];exact⟨g1,by rw[D];exact g3⟩
  .have f:i<r:=by simpa[st0]using a
   have p:j<r:=by simpa[st0]using l
   have g1:=(e i f).1;have g2:=(e j p).1;rw[<- n,<- g1,k i f,k j p]at g2;rcases Nat.lt_trichotomy i j with d|d|d
   .exact(List.pairwise_iff_getElem.1 q i j V V d) g2.symm
   .exact A d
   .exact(List.pairwise_iff_getElem.1 q j i V V d) g2
  .rcases b with rfl|rfl|b|b|⟨j,l,rfl⟩|b
   .exact χ _
   .exact C
   .cases b
   .cases b
   .exact(e j (by simpa using l)).2.1
   .exact b.elim }
def Qz(known:List Bool)(n:Nat):cnt known<=cnt (dw known n):=by unfold dw cnt;rw[ϑH,ϑH,ρ,ρ];omega
def AY(a:List (List Bool))(k:Nat)(b:k<a.length):a.getD k []=a[k]:=by simp[b]
def YI(b:List (List Bool))(k:Nat)(c:k<b.length)(a:List Bool)(j:Nat):(b.set k a).getD j []=if k=j then a else b.getD j []:=by
 rw[ξ,List.getElem?_set];by_cases e:k=j
 .subst e;simp[c]
 .rw[ύ e,ύ e,ξ]
def Vh{s s':Sl}{i r:Int}{t:Thk.Bs}(g:Oj s i t r s'):s'.room=s.room/\s'.fs=s.fs/\s'.ls=s.ls/\s'.kn.length=s.kn.length/\s.es.length<=s'.es.length/\(∀j,cnt (s.kn.getD j [])<=cnt (s'.kn.getD j []))/\∀j,(s'.rs j).ak=(s.rs j).ak:=by
 have f:s.room=s.room/\s.fs=s.fs/\s.ls=s.ls/\s.kn.length=s.kn.length/\s.es.length<=s.es.length/\(∀j,cnt (s.kn.getD j [])<=cnt (s.kn.getD j []))/\∀j,(s.rs j).ak=(s.rs j).ak:=⟨rfl,rfl,rfl,rfl,χ _,λ_=>χ _,λ_=>rfl⟩;have upd:∀(L:LR)(k j:Nat),L.ak=(s.rs k).ak->(aX s.rs k L j).ak=(s.rs j).ak:=λL k j h=>by
  by_cases e:j=k
  .rw[e,aN];exact h
  .rw[aS _ _ e]
 rcases g with⟨_,_,rfl⟩|⟨_,_,_,_,rfl⟩|⟨_,_,_,_,_,rfl⟩|⟨c,e,m,_,_,_,a⟩
 .exact f
 .exact f
 .exact f
 .obtain⟨k,rfl,l⟩:=ED m;rw[ϑE]at a;cases ha:(s.rs k).arm with
  | none =>
   rw[ha]at a;obtain⟨_,rfl⟩:=a;refine⟨rfl,rfl,rfl,Ω,Ω,λj=>?_,λj=>upd _ _ _ (LR.xB _ _).2.2⟩;show _<=cnt ((s.kn.set k _).getD j []);rw[YI _ _ l];by_cases d:k=j
   .rw[ώ d,<- d];exact Qz _ _
   .rw[ύ d];exact χ _
  | some b =>rw[ha]at a;obtain⟨_,rfl⟩:=a;exact⟨rfl,rfl,rfl,rfl,Ω,λ_=>χ _,λj=>upd _ _ _ rfl⟩
section
variable{w w':World}{c:Nat}{R M:Nat->Prop}{s s':Sl}{rb:Nat}{aY jR fv eX:Value}{av av':Nat->Value}{ab ab':Nat->Nat}{I I':Nat->Prop}
def uz.ae2(h:uz w c R s rb aY fv av ab I){n:Nat}(o:n=s.kn.length)(i:∀g,jR.ownBlock=some g->aY.ownBlock=some g\/w.heap.size<=g)(l:∀g,eX.ownBlock=some g->fv.ownBlock=some g\/w.heap.size<=g)(f:∀j,ab' j=ab j\/w.heap.size<=ab' j)(e:∀d,I' d->I d\/w.heap.size<=d):∀k,zU c rb jR eX n ab' I' k->R k\/w.heap.size<=k:=by
 subst o;intro k a;rcases a with a|a|a|a|⟨j,m,a⟩|a
 .exact τ ((h.own k).2 (τ a))
 .exact τ ((h.own k).2 (υ (τ a)))
 .exact(i k a).imp (λb=>(h.own k).2 (υ (υ (τ b)))) id
 .exact(l k a).imp (λb=>(h.own k).2 (υ (υ (υ (τ b))))) id
 .rw[<- a];exact(f j).imp (λb=>(h.own _).2 (υ (υ (υ (υ (τ ⟨j,m,b.symm⟩)))))) id
 .exact(e k a).imp (λb=>(h.own k).2 (υ (υ (υ (υ (υ b)))))) id
def uz.d'(h:uz w c R s rb aY fv av ab I)(e:∀b,I' b->I b\/w.heap.size<=b):∀i,i<s.kn.length->¬I' (ab i):=λi d f=>by
 rcases e _ f with a|a
 .exact h.d.2 i d a
 .have:=(h.a.tag i d).lt;omega
def uz.no(h:uz w c R s rb aY fv av ab I){b:Nat}{t:TypeId}(a:Tagged w b t)(d:t=4\/t=3):¬(b=c\/b=rb\/aY.ownBlock=some b\/fv.ownBlock=some b):=by
 rintro(e|e|e|e)
 .exact Tagged.ne a h.r.tc (by rcases d with rfl|rfl<;>decide) e
 .exact Tagged.ne a h.r.jr (by rcases d with rfl|rfl<;>decide) e
 .exact Tagged.ne a (h.r.zi b e).2 (by rcases d with rfl|rfl<;>decide) rfl
 .exact Tagged.ne a (h.f.tag b e) (by rcases d with rfl|rfl<;>decide) rfl
def uz.no3(h:uz w c R s rb aY fv av ab I){b:Nat}{t:TypeId}(a:Tagged w b t)(d:t=4\/t=3):¬(b=c\/b=rb\/aY.ownBlock=some b):=λe=>h.no a d (by rcases e with e|e|e;exact τ e;exact υ (τ e);exact υ (υ (τ e)))
def uz.next(h:uz w c R s rb aY fv av ab I)(A:bD w' c rb jR fv av' s'.room s'.es s'.acc ⟨I',s'.rs⟩ s'.kn)(y:s'.fs=s.fs/\s'.ls=s.ls/\s'.kn.length=s.kn.length/\s.es.length<=s'.es.length/\∀j,cnt (s.kn.getD j [])<=cnt (s'.kn.getD j []))(n:aA (λx=>x=c\/x=rb\/aY.ownBlock=some x) w w')(v:∀g,jR.ownBlock=some g->aY.ownBlock=some g\/w.heap.size<=g)(p:∀b,I' b->I b\/w.heap.size<=b)(q:∀b,I b->I' b)(r:EH w' av' s.kn.length ab' s'.rs)(u:(∀i j,i<s.kn.length->j<s.kn.length->i≠j->ab' i≠ab' j)/\∀i,i<s.kn.length->¬I' (ab' i))(t:∀j,ab' j=ab j\/w.heap.size<=ab' j):∃m,EI w' c m s'/\(∀k,m k->R k\/w.heap.size<=k)/\aA R w w':=by
 obtain⟨f1,f2,f3,f4,f5⟩:=y;have hF:iZ I' w' fv s.fs s.ls:=h.f.aJ n (λg d e=>by
  rcases e with e|e|e
  .exact Tagged.ne (h.f.tag g d) h.r.tc Ψ e
  .exact Tagged.ne (h.f.tag g d) h.r.jr Ψ e
  .exact Tagged.ne (h.f.tag g d) (h.r.zi g e).2 Ψ rfl) (λb l=>h.no3 l (τ rfl)) (λb l=>h.no3 (h.r.ib b l) (υ rfl)) q
 refine⟨zU c rb jR fv s'.kn.length ab' I',⟨rb,jR,fv,av',ab',I',A,by rw[f1,f2];exact hF,by rw[f3];exact r,by rw[f3];exact u,⟨by rw[f1];exact h.i.f500,λf a=>?_,λf a o=>?_⟩,λk=>Iff.rfl⟩,h.ae2 f3 v (λg d=>τ d) t p,n.mono (λx _ B=>(h.own x).2 (by rcases B with e|e|e;exact τ e;exact υ (τ e);exact υ (υ (τ e))))⟩
 .rw[f1]at a;obtain⟨C,D,E,F⟩:=h.i.src f a;exact⟨by rw[f3];exact C,by rw[f3];exact D,by rw[f1];exact E,ς F f4⟩
 .rw[f1]at a;exact ς (h.i.cnt f a o) (f5 _)
def uz.keep(h:uz w c R s rb aY fv av ab I)(o:bD w' c rb jR fv av s'.room s'.es s'.acc ⟨I',s'.rs⟩ s'.kn)(m:s'.fs=s.fs/\s'.ls=s.ls/\s'.kn.length=s.kn.length/\s.es.length<=s'.es.length/\∀j,cnt (s.kn.getD j [])<=cnt (s'.kn.getD j []))(e:aA (λx=>x=c\/x=rb\/aY.ownBlock=some x) w w')(l:∀g,jR.ownBlock=some g->aY.ownBlock=some g\/w.heap.size<=g)(d:∀b,I' b->I b\/w.heap.size<=b)(f:∀b,I b->I' b)(i:∀j,(s'.rs j).ak=(s.rs j).ak):∃a,EI w' c a s'/\(∀k,a k->R k\/w.heap.size<=k)/\aA R w w' :=
 h.next o m e l d f (h.a.aJ e (λj n=>h.no3 (h.a.tag j n) (υ rfl)) i) ⟨h.d.1,h.d' d⟩ (λ_=>τ rfl)
def uz.lost(h:uz w c R s rb aY fv av ab I){k:Nat}(E:k<s.kn.length)(C:bD w' c rb aY fv (aX av k (.slice (some (z w.heap.size)) s.kn.length s.kn.length)) s'.room s'.es s'.acc ⟨I,s'.rs⟩ s'.kn)(y:s'.fs=s.fs/\s'.ls=s.ls/\s'.kn.length=s.kn.length/\s.es.length<=s'.es.length/\∀j,cnt (s.kn.getD j [])<=cnt (s'.kn.getD j []))(v:aA (λx=>x=c\/x=rb) w w')(u:ES w' s.kn.length w.heap.size (.slice (some (z w.heap.size)) s.kn.length s.kn.length))(l:∀j,(s'.rs j).ak=if j=k then λ_=>0 else(s.rs j).ak):∃f,EI w' c f s'/\(∀k,f k->R k\/w.heap.size<=k)/\aA R w w':=by
 have m:aA (λx=>x=c\/x=rb\/aY.ownBlock=some x) w w':=v.mono (λx _ e=>e.imp id τ);have n:=λj a=>(h.a.tag j a).lt;refine h.next (ab':=aX ab k w.heap.size) C y m (λD A=>τ A) (λo b=>τ b) (λ_ h=>h) (λj a=>?_) ⟨λi j d a B=>?_,λi d b=>?_⟩ (λj=>?_)
 .by_cases e:j=k
  .rw[l,ώ e,e,aN,aN];obtain⟨o,p,q,r⟩:=u;refine⟨rfl, ?_⟩;rw[List.map_const',List.length_range];exact r
  .rw[aS _ _ e,aS _ _ e];have t:=(h.a.aJ m (rs':=s.rs) (λj a=>h.no3 (h.a.tag j a) (υ rfl)) (λ_=>rfl)) j a;rw[l,ύ e];exact t
 .have p:=n i d;have q:=n j a;by_cases e:i=k
  .rw[e,aN,aS _ _ V];omega
  .rw[aS _ _ e];by_cases g:j=k
   .rw[g,aN];omega
   .rw[aS _ _ g];exact h.d.1 i j d a B
 .by_cases e:i=k
  .rw[e,aN]at b;have:=(h.r.ib _ b).lt;omega
  .rw[aS _ _ e]at b;exact h.d.2 i d b
 .by_cases e:j=k
  .rw[e,aN];exact υ (χ _)
  .rw[aS _ _ e];exact τ rfl
end
def Vj{s:St}{f:Int}{g:lH}(h:iF s f=some g):∃k:Nat,∃a:k<s.fs.length,f=(k:Int)+1/\s.fs[k]=g:=by
 unfold iF at h;split at h
 .rename_i hf;have a:f.toNat-1<s.fs.length:=V
  rw[σ a]at h;exact⟨f.toNat-1,a,V,Option.some.inj h⟩
 .cases h
def ab3{s:Sl}{k:Nat}{L:LR}(h:∀j,j=k->L.ak=(s.rs j).ak)(j:Nat):(aX s.rs k L j).ak=(s.rs j).ak:=by
 by_cases e:j=k
 .rw[e,aN,h k rfl]
 .rw[aS _ _ e]
def YJ{b:List (List Bool)}{k:Nat}(d:k<b.length){a:List Bool}(h:cnt (b.getD k [])<=cnt a)(j:Nat):cnt (b.getD j [])<=cnt ((b.set k a).getD j []):=by
 rw[YI _ _ d];by_cases c:k=j
 .rw[ώ c,<- c];exact h
 .rw[ύ c];exact χ _
section
variable{w w':World}{c:Nat}{R M:Nat->Prop}{s:Sl}{rb:Nat}{aY fv eX:Value}{av:Nat->Value}{ab:Nat->Nat}{I I':Nat->Prop}
def uz.fr(h:uz w c R s rb aY fv av ab I){s':Sl}{f:lH}{y:LF}(i:s'.fs=s.fs++[f])(D:s'.ls=s.ls++[y])(N:s.fs.length<500)(F:bD w' c rb aY eX av s'.room s'.es s'.acc ⟨I',s'.rs⟩ s'.kn)(hF:iZ I' w' eX (s.fs++[f]) (s.ls++[y]))(k:s'.kn.length=s.kn.length)(B:s'.es=s.es)(A:∀j,cnt (s.kn.getD j [])<=cnt (s'.kn.getD j []))(r:∀j,(s'.rs j).ak=(s.rs j).ak)(q:aA (λx=>x=c\/x=rb\/fv.ownBlock=some x) w w')(a:∀g,eX.ownBlock=some g->fv.ownBlock=some g\/w.heap.size<=g)(p:∀b,I' b->I b\/w.heap.size<=b)(m:f.src<s.kn.length/\f.dst<s.kn.length/\f.ack<=s.fs.length/\f.known.length<=s.es.length)(v:f.ack=0->cnt f.known<=cnt (s'.kn.getD f.src [])):∃o,EI w' c o s'/\(∀n,o n->R n\/w.heap.size<=n)/\aA R w w':=by
 have E:∀{b:Nat}{t:TypeId},Tagged w b t->t=4\/t=3->¬(b=c\/b=rb\/fv.ownBlock=some b):=λu G e=>h.no u G (by rcases e with e|e|e;exact τ e;exact υ (τ e);exact υ (υ (υ e)));refine⟨zU c rb aY eX s'.kn.length ab I',⟨rb,aY,eX,av,ab,I',F,by rw[i,D];exact hF,by rw[k];exact h.a.aJ q (λj C=>E (h.a.tag j C) (υ rfl)) r,by rw[k];exact⟨h.d.1,h.d' p⟩,⟨by rw[i];simp;omega,λg a=>?_,λg a l=>?_⟩,λg=>Iff.rfl⟩,h.ae2 k (λg a=>τ a) a (λ_=>τ rfl) p,q.mono (λx _ H=>(h.own x).2 (by rcases H with e|e|e;exact τ e;exact υ (τ e);exact υ (υ (υ (τ e)))))⟩
 .rw[i]at a;rw[k,i,B,ρ,List.length_singleton];rcases θ.1 a with d|d
  .obtain⟨K,L,P,M⟩:=h.i.src g d;exact⟨K,L,V,M⟩
  .rw[ϑe.1 d];exact⟨m.1,m.2.1,V,m.2.2.2⟩
 .rw[i]at a;rcases θ.1 a with d|d
  .exact ς (h.i.cnt g d l) (A _)
  .rw[ϑe.1 d]at l⊢;exact v l
end
def YK:kQ EI:={
 up:=by rintro w c R s i⟨rb,aY,fv,av,ab,I,h⟩;exact iG w c rb aY fv av s.room s.es _ _ s.kn h.r i
 does:=by
  rintro w c R s i t r s'⟨rb,aY,fv,av,ab,I,h⟩ B ht a5;refine ψ (Sv w c rb aY fv av s.room s.es s.acc ⟨I,s.rs⟩ s.kn s.fs s.ls h.r i t ht (λch _ _ _=>⟨Nat.succ_le_succ B.1,λ_=>Nat.succ_le_succ (B.2.2 i.toNat).1,Nat.succ_le_succ (B.2.2 i.toNat).2⟩)) ?_;rintro e w'⟨r2,jR,af,ac,az,Eu,I',rfl,H,F,W,n,p,ai⟩;obtain⟨rfl,rfl⟩:=ab2 a5 (show Oj s i (ay t) r2 ⟨⟨af,Eu,s.fs⟩,s.room,az,s.ls,ac⟩from H);obtain⟨_,f2,f3,f4,f5,f6,f7⟩:=Vh a5;exact⟨rfl,h.keep n ⟨f2,f3,f4,f5,f6⟩ p (λE x=>by
   rcases ai with he|⟨g',he,aj⟩
   .exact τ (he.symm.trans x)
   .rw[he]at x;cases x;exact υ aj) F W f7⟩
 asks:=by rintro w c R s i t⟨rb,aY,fv,av,ab,I,h⟩ ht;exact Zd w c rb aY fv av s.room s.es _ _ s.kn h.r i t ht
 cells:=by rintro w c R s⟨rb,aY,fv,av,ab,I,h⟩;obtain⟨ae,f1,ah⟩:=h.r.f1;refine⟨h.r.n6,rb,ae,f1,ah,λi b4=>?_⟩;obtain⟨⟨kv,a0,b0⟩,_,_,_,⟨kp,aa,ad,_⟩,_⟩:=h.r.kX i b4;have:=h.r.kn _ (κ b4);have:=h.r.oH;obtain⟨ao,kc,e,_⟩:=ad.shape;rw[jX]at e;exact⟨⟨kv,a0,b0,V⟩,ao,kc,by rw[<- e];exact aa,(h.r.wJ i).2.2⟩
 sends:=by
  rintro w c R s i j s'⟨rb,aY,fv,av,ab,I,h⟩ f;have P:=h.i.f500;unfold rH at f;have a4:∀(S r:Int),iC s i j=(S,r)->r≠0->(Ending.returned (.tuple #[.int .i64 S,.int .i64 r]):Ending)=.returned (.tuple #[.int .i64 (iC s i j).1,.int .i64 (iC s i j).2])/\∃R',EI w c R' s'/\(∀k,R' k->R k\/w.heap.size<=k)/\aA R w w:=λS r u e3=>by rw[u,ύ e3]at f;rw[u,f];exact⟨rfl,R,⟨rb,aY,fv,av,ab,I,h⟩,λk a=>τ a,aA.refl _ _⟩
  by_cases g:iQ s i=0/\iQ s j=0
  .by_cases o:i=j\/500<=s.fs.length
   .refine ψ (Lc w c rb aY fv av s.room s.es _ _ s.kn h.r s.fs h.f P i j g.1 g.2 o) ?_;rintro e w'⟨rfl,rfl⟩;refine a4 0 _ ?_ (by split<;>decide);unfold iC;rw[ώ g.1,ώ g.2];by_cases X:i=j
    .rw[ώ X,ώ X]
    .rw[ύ X,ύ X,ώ (o.resolve_left X)]
   .obtain⟨k,rfl,a⟩:=ED g.1;obtain⟨k',rfl,a6⟩:=ED g.2;obtain⟨_,_,e8,L⟩:=wK (ld:=⟨I,s.rs⟩) g.1;obtain⟨_,_,A,aw⟩:=wK (ld:=⟨I,s.rs⟩) g.2;cases e8
    cases A;have a2:k≠k':=λe=>o (τ (by rw[e]));have u:iC s (k:Int) (k':Int)=((s.fs.length:Int)+1,0):=by unfold iC;rw[ώ g.1,ώ g.2,ύ (λe=>o (τ e)),ύ (λe=>o (υ e))]
    rw[u,ώ rfl]at f;obtain⟨b,rfl⟩:=f;refine ψ (O5 w c rb aY fv av s.room s.es _ _ s.kn h.r s.fs s.ls h.f k k' a a6 a2 L aw V (λl q K f=>by have:=h.i.cnt l q K;rw[f,AY _ _ a]at this;exact this) ⟨_,_,_,(h.a k a).1⟩ b) ?_;rintro e w'⟨rfl,eX,I',F,W,n,hF,p,Q⟩;have ar:newL s k k'=⟨(s.rs k).made,(s.rs k).lost,false,jm s.fs s.ls k k' (s.rs k).lost (cnt s.kn[k]) (aH s.es s.kn[k] s.es.length) s.fs.length,aH s.es s.kn[k] s.es.length⟩:=by unfold newL;rw[Gj,AY _ _ a]
    refine⟨by rw[u],h.fr rfl rfl V n ?_ rfl rfl (λ_=>χ _) (λ_=>rfl) (p.mono (λM _ e=>e.imp id υ)) Q F ⟨a,a6,Nat.zero_le _, ?_⟩ (λ_=>χ _)⟩
    .simp only[ϑE];rw[ar,AY _ _ a];exact hF
    .simp only[ϑE];rw[AY _ _ a];exact h.r.kn _ (κ a)
  .refine ψ (Pg w c rb aY fv av s.room s.es _ _ s.kn h.r i j g) ?_;rintro e w'⟨rfl,rfl⟩;show _=Ending.returned (.tuple #[.int .i64 (iC s i j).1,.int .i64 (iC s i j).2])/\_;by_cases b4:iQ s i=0
   .have C:iQ s j≠0:=λC=>g ⟨b4,C⟩;have A:(if iQ s i=0 then iQ s j else iQ s i)=iQ s j:=ώ b4;show Ending.returned (.tuple #[.int .i64 0,.int .i64 (if iQ s i=0 then iQ s j else iQ s i)])=_/\_;rw[A];exact a4 0 _ (by unfold iC;rw[ώ b4,ύ C]) C
   .have A:(if iQ s i=0 then iQ s j else iQ s i)=iQ s i:=ύ b4;show Ending.returned (.tuple #[.int .i64 0,.int .i64 (if iQ s i=0 then iQ s j else iQ s i)])=_/\_;rw[A];exact a4 0 _ (by unfold iC;rw[ύ b4]) b4
 Ko:=by
  rintro w c R s l s'⟨rb,aY,fv,av,ab,I,h⟩ B f;have P:=h.i.f500;have hG:EI w c R s:=⟨rb,aY,fv,av,ab,I,h⟩;unfold J9 at f;unfold delS;cases y:iF s.1 l with
  | none =>
   rw[y]at f;dsimp only at f;have q:¬(1<=l/\l<=s.fs.length):=λq=>by unfold iF at y;rw[ώ q,σ V]at y;cases y
   refine ψ (O8 w c fv s.fs h.r.f4 h.f P l q) ?_;rintro e w'⟨rfl,rfl⟩;rw[f];exact⟨rfl,R,hG,λk a=>τ a,aA.refl _ _⟩
  | some E =>
   obtain⟨k,a,rfl,x⟩:=Vj y;rw[y]at f;dsimp only at f⊢;obtain⟨Z,b6,q3,q4⟩:=h.i.src _ (κ a);rw[x]at Z b6 q3 q4;subst x;cases hdn:(s.rs s.fs[k].dst).dn with
   | some d =>rw[hdn]at f;have f:s'=s:=f;refine ψ (KY w c rb aY fv av s.room s.es _ _ s.kn h.r s.fs s.ls h.f k a b6 (by show(s.rs s.fs[k].dst).dn.isSome=true;rw[hdn];rfl) P) ?_;rintro e w'⟨rfl,g⟩;rw[f];exact⟨rfl,R,vg.below hG g,λk a=>τ a,aA.of_below g⟩
   | none =>
    rw[hdn]at f;rw[ύ Ω]at f;rw[ύ Ω];by_cases ha:0<s.fs[k].ack
    .rw[ώ ha]at f⊢;subst f;obtain⟨N,a3⟩:=h.a _ b6;refine ψ (O9 w c rb aY fv av s.room s.es _ _ s.kn h.r s.fs s.ls h.f k a b6 Z P hdn (s.fs[k].ack-1) V V (ab s.fs[k].dst) N (h.d.2 _ b6) ((List.range s.kn.length).map (s.rs s.fs[k].dst).ak) Ω (by rw[<- N];exact a3)) ?_;rintro e w'⟨rfl,n,hF,U,p⟩;have ag:∀j,j<s.kn.length->j≠s.fs[k].dst->¬(ab j=ab s.fs[k].dst\/fv.ownBlock=some (ab j)):=λj C aq e=>by
      rcases e with e|e
      .exact h.d.1 j _ C b6 aq e
      .exact h.no (h.a.tag j C) (υ rfl) (υ (υ (υ e)))
     refine⟨rfl,R,⟨rb,aY,fv,av,ab,I,n.aE2 (λj=>?_),hF,λj C=>?_,h.d,⟨P,h.i.src,h.i.cnt⟩,h.own⟩,λk a=>τ a,p.mono (λM _ o=>(h.own M).2 (o.elim (λo=>υ (υ (υ (υ (τ ⟨_,b6,o.symm⟩))))) (λo=>υ (υ (υ (τ o))))))⟩
     .dsimp only;by_cases e:j=s.fs[k].dst
      .rw[e,aN];exact⟨_,rfl⟩
      .rw[aS _ _ e];exact⟨_,rfl⟩
     .dsimp only;by_cases e:j=s.fs[k].dst
      .subst e;rw[aN];refine⟨N, ?_⟩;rw[N];have A:(List.range s.kn.length).map (((s.rs s.fs[k].dst).Sm s.fs[k].src (madeOf s.ls (s.fs[k].ack-1))).ak)=((List.range s.kn.length).map (s.rs s.fs[k].dst).ak).set s.fs[k].src (max (((List.range s.kn.length).map (s.rs s.fs[k].dst).ak).getD s.fs[k].src 0) (madeOf s.ls (s.fs[k].ack-1))):=by
        refine List.ext_getElem Ω λS v h2=>?_;have Q:S<s.kn.length:=by simpa using v
        rw[ϑi];simp only[ϑI,List.getElem_range];by_cases A:s.fs[k].src=S
        .subst A;rw[ώ rfl,ξ];show aX _ _ _ _=_;rw[aN];simp[Q]
        .rw[ύ A];exact aS _ _ (λe=>A e.symm)
       rw[A];exact U
      .rw[aS _ _ e];obtain⟨b1,b3⟩:=h.a j C;refine⟨b1, ?_⟩;have h4:wI (λb=>b=ab j) w (av j) ((List.range s.kn.length).map (s.rs j).ak):=⟨b3,λb b2 m cp e=>by rw[b1]at e;cases e;rfl⟩;exact(h4.aJ p (λb g=>by rw[g];exact ag j C e) (I':=λb=>b=ab j) (λ_ h=>h)).1
    .rw[ύ ha]at f⊢;by_cases h5:500<=s.fs.length
     .rw[ώ h5]at f⊢;refine ψ (KX w c rb aY fv av s.room s.es _ _ s.kn h.r s.fs s.ls h.f k a b6 hdn V V) ?_;rintro e w'⟨rfl,g⟩;rw[f];exact⟨rfl,R,vg.below hG g,λk a=>τ a,aA.of_below g⟩
     .rw[ύ h5]at f⊢;have ak:=AY _ _ b6;have Y:=B.2.2 s.fs[k].dst;obtain⟨b,g⟩:∃b,s'=(match jQ s s.fs[k],(s.rs s.fs[k].dst).arm with
       | true,some b=>⟨s.1,s.room,aX s.rs s.fs[k].dst ((s.rs s.fs[k].dst).Ba (E5 s.es (bH (s.kn.getD s.fs[k].dst []) s.fs[k].known) false b)),s.ls,s.acc⟩
       | true,none=>⟨⟨s.es,s.kn.set s.fs[k].dst (bH (s.kn.getD s.fs[k].dst []) s.fs[k].known),s.fs++[⟨s.fs[k].dst,s.fs[k].src,((k:Int)+1).toNat,[],b⟩]⟩,s.room,aX s.rs s.fs[k].dst ((s.rs s.fs[k].dst).write s.room),s.ls++[⟨0,0,false,80,[]⟩],s.acc⟩
       | false,_=>⟨⟨s.es,s.kn,s.fs++[⟨s.fs[k].dst,s.fs[k].src,((k:Int)+1).toNat,[],b⟩]⟩,s.room,s.rs,s.ls++[⟨0,0,false,80,[]⟩],s.acc⟩):=by
       cases b5:jQ s s.fs[k] with
       | false=>rw[b5]at f;exact f
       | true =>
        cases G:(s.rs s.fs[k].dst).arm with
        | none=>rw[b5,G]at f;exact f
        | some b=>rw[b5,G]at f;exact⟨⟨#[]⟩,f⟩
      clear f;refine ψ (TA w c rb aY fv av s.room s.es _ _ s.kn h.r s.fs s.ls h.f k a b6 Z V V q4 b hdn (λ_=>⟨λ_=>Nat.succ_le_succ Y.1,Nat.succ_le_succ Y.2⟩)) ?_;rw[<- ak];rintro e w' (⟨b5,bt,G,rfl,n,p⟩|⟨ap,rfl,eX,I',F,W,n,hF,p,Q⟩)
      .have T:jQ s s.fs[k]=true:=decide_eq_true b5;have G:(s.rs s.fs[k].dst).arm=some bt:=G;rw[T,G]at g⊢;subst g;exact⟨rfl,h.keep n ⟨rfl,rfl,rfl,χ _,λ_=>χ _⟩ (p.mono (λM _ e=>υ (τ e))) (λE x=>τ x) (λb g=>τ g) (λ_ h=>h) (ab3 (λj e=>by subst e;rfl))⟩
      .have a2:((k:Int)+1).toNat=k+1:=V
       rw[a2]at g;by_cases b5:cnt (s.kn.getD s.fs[k].dst [])<cnt (bH (s.kn.getD s.fs[k].dst []) s.fs[k].known)
       .have T:jQ s s.fs[k]=true:=decide_eq_true b5;have G:(s.rs s.fs[k].dst).arm=none:=ap b5;rw[T,G]at g⊢;subst g;rw[ώ b5,ώ b5]at n;exact⟨rfl,h.fr rfl rfl V n hF Ω rfl (YJ b6 (ϑx b5)) (ab3 (λj e=>by rw[e];exact(LR.xB _ _).2.2)) p Q F ⟨b6,Z,by show k+1<=_;omega,Nat.zero_le _⟩ (λK=>absurd K (Nat.succ_ne_zero _))⟩
       .have T:jQ s s.fs[k]=false:=decide_eq_false b5;rw[T]at g⊢;subst g;rw[ύ b5,ύ b5]at n;exact⟨rfl,h.fr rfl rfl V n hF rfl rfl (λ_=>χ _) (λ_=>rfl) p Q F ⟨b6,Z,by show k+1<=_;omega,Nat.zero_le _⟩ (λK=>absurd K (Nat.succ_ne_zero _))⟩
 bound:=by
  rintro w c R s l⟨rb,aY,fv,av,ab,I,h⟩;obtain⟨xs,x1,x0,_,x3⟩:=h.f;have a7:s.ls.length=s.fs.length:=by rw[<- x0,ϑh,x1]
  refine ψ (Tj w c fv s.fs h.r.f4 h.f h.i.f500 l) ?_;rintro e w'⟨rfl,rfl⟩;refine⟨qm s.ls l,rfl, ?_,λD=>?_,λM o D=>?_,rfl⟩
  .unfold qm;split
   .rename_i q;have a:l.toNat-1<s.fs.length:=V
    have:=(x3 (l.toNat-1) a V).m2;rw[<- x0];simp[(V:l.toNat-1<xs.length)];omega
   .omega
  .unfold iF at D;unfold qm;by_cases q:1<=l/\l<=s.fs.length
   .rw[ώ q,σ V]at D;cases D
   .rw[ύ (by rw[a7];exact q)]
  .unfold iF at D;by_cases q:1<=l/\l<=s.fs.length
   .have a:l.toNat-1<s.fs.length:=V
    have h3:=(x3 (l.toNat-1) a V).m1;unfold qm;rw[ώ (by rw[a7];exact q),o];rw[<- x0,ϑG,σ V]at o;cases o
    exact⟨rfl,by show _≠0;simp only[Option.map_some,Option.getD_some];omega⟩
   .rw[ύ q]at D;exact absurd rfl D
 ticks:=by
  rintro w c R s i⟨rb,aY,fv,av,ab,I,h⟩;unfold wH;by_cases b4:iQ s i=0
  .obtain⟨k,a,rfl,L⟩:=wK (ld:=⟨I,s.rs⟩) b4;rw[b4,ώ rfl];obtain⟨N,a3⟩:=h.a k a;refine ψ (Pj w c rb aY fv av s.room s.es _ _ s.kn h.r k a L (ab k) N a3) ?_;rintro e w'⟨rfl,⟨I',F,W,n⟩,p⟩;exact⟨rfl,h.keep n ⟨rfl,rfl,rfl,χ _,λ_=>χ _⟩ (p.mono (λM _ e=>υ (τ e))) (λE x=>τ x) F W (ab3 (λj e=>by subst e;rfl))⟩
  .rw[ύ b4];refine ψ (Pm w c rb aY fv av s.room s.es _ _ s.kn h.r i b4) ?_;rintro e w'⟨rfl,rfl⟩;exact⟨rfl,R,⟨rb,aY,fv,av,ab,I,h⟩,λk a=>τ a,aA.refl _ _⟩
 crashes:=by
  rintro w c R s i⟨rb,aY,fv,av,ab,I,h⟩ B;unfold pU;by_cases b4:iQ s i=0
  .obtain⟨k,a,rfl,L⟩:=wK (ld:=⟨I,s.rs⟩) b4;rw[b4,ώ rfl];refine ψ (Kv h.r a (Nat.succ_le_succ (B.2.2 k).2) L) ?_;rintro e w'⟨rfl,n,U,p⟩;refine⟨rfl,h.lost a n ⟨rfl,rfl,rfl,χ _,λ_=>χ _⟩ (p.mono (λM _ e=>υ e)) U (λj=>?_)⟩;show(aX s.rs k _ j).ak=_;by_cases e:j=k
   .rw[e,aN,ώ rfl];(first|done|rfl)
   .rw[aS _ _ e,ύ e]
  .rw[ύ b4];refine ψ (Kw h.r i b4) ?_;rintro e w'⟨rfl,rfl⟩;exact⟨rfl,R,⟨rb,aY,fv,av,ab,I,h⟩,λk a=>τ a,aA.refl _ _⟩
 tears:=by
  rintro w c R s i b⟨rb,aY,fv,av,ab,I,h⟩;by_cases o:iQ s i=0/\¬b<0
  .have u:vO s i b=0:=by unfold vO;rw[ώ o.1,ύ o.2]
   obtain⟨k,a,rfl,L⟩:=wK (ld:=⟨I,s.rs⟩) o.1;obtain⟨m,rfl⟩:=Int.eq_ofNat_of_zero_le (V:0<=b);unfold rJ;rw[u,ώ rfl];refine ψ (Ou h.r a L m) ?_;rintro e w'⟨rfl,n,p⟩;exact⟨rfl,h.keep n ⟨rfl,rfl,rfl,χ _,λ_=>χ _⟩ (p.mono (λM _ e=>υ (τ e))) (λE x=>τ x) (λb g=>τ g) (λ_ h=>h) (ab3 (λj e=>by subst e;rfl))⟩
  .have a9:iQ s i≠0\/b<0:=by
    by_cases v:iQ s i=0
    .exact υ (ϑc λh2=>o ⟨v,h2⟩)
    .exact τ v
   have u:vO s i b=if iQ s i=0 then 1 else iQ s i:=by
    unfold vO;by_cases v:iQ s i=0
    .rw[ώ v,ώ v,ώ (a9.resolve_left (λh=>h v))]
    .rw[ύ v,ύ v]
   have e2:vO s i b≠0:=by rw[u];split<;>first|decide|assumption
   unfold rJ;rw[ύ e2];refine ψ (Ot h.r i b a9) ?_;rintro e w'⟨rfl,rfl⟩;exact⟨by rw[u];rfl,R,⟨rb,aY,fv,av,ab,I,h⟩,λk a=>τ a,aA.refl _ _⟩
 wakes:=by
  rintro w c R s i s'⟨rb,aY,fv,av,ab,I,h⟩ B an f;unfold vP at f;by_cases b4:iQ s i=3
  .rw[ώ b4]at f;obtain⟨k,rfl,a,d,H⟩:∃k:Nat,i=(k:Int)/\k<s.kn.length/\∃d,(s.rs k).dn=some d:=by
    unfold iQ at b4;split at b4
    .rename_i D;obtain⟨k,rfl⟩:=Int.eq_ofNat_of_zero_le D.1;rw[ϑE]at b4;cases H:(s.rs k).dn with
     | none=>rw[H]at b4;cases b4
     | some d=>exact⟨k,rfl,V,d,H⟩
    .cases b4
   rw[ϑE]at f;obtain⟨b,K,v,rfl⟩:=f d H;have hl:=an k d a H;have Y:=B.2.2 k;rw[AY _ _ a]at hl;have a8:(if b then s.kn.set k d.xQ else s.kn).length=s.kn.length:=by cases b<;>simp
   have al:(iq ⟨⟨s.es,if b then s.kn.set k d.xQ else s.kn,s.fs⟩,s.room,aX s.rs k ((s.rs k).wake b),s.ls,if b&&d.own then s.acc+1 else s.acc⟩ (k:Int)).1=((if b then cnt d.xQ else cnt s.kn[k]:Nat):Int):=by
    have ax:iQ ⟨⟨s.es,if b then s.kn.set k d.xQ else s.kn,s.fs⟩,s.room,aX s.rs k ((s.rs k).wake b),s.ls,if b&&d.own then s.acc+1 else s.acc⟩ (k:Int)=0:=by unfold iQ;dsimp only;rw[ώ (by rw[a8];omega),ϑE];exact ύ (by rw[aN];exact Bool.false_ne_true)
    unfold iq;rw[ώ ax];dsimp only;rw[ϑE];cases b
    .rw[ύ Ω,ύ Ω,AY _ _ a]
    .rw[ώ rfl,ώ rfl,YI _ _ a,ώ rfl]
   rw[al,show xR s (k:Int)=0 from ώ b4];refine ψ (Ov h.r a H hl b K v (Nat.succ_le_succ Y.1) (Nat.succ_le_succ Y.2) (Nat.succ_le_succ B.2.1)) ?_;rintro e w'⟨rfl,n,U,p⟩;refine⟨rfl,h.lost a n ⟨rfl,rfl,a8,χ _,λj=>?_⟩ p U (λj=>?_)⟩
   .cases b
    .exact χ _
    .exact YJ a (by rw[AY _ _ a];exact ϑx hl) j
   .show(aX s.rs k _ j).ak=_;by_cases e:j=k
    .rw[e,aN,ώ rfl];(first|done|rfl)
    .rw[aS _ _ e,ύ e]
  .rw[ύ b4]at f;subst f;refine ψ (Ox h.r i _ b4) ?_;rintro e w'⟨rfl,rfl⟩;refine⟨?_,R,⟨rb,aY,fv,av,ab,I,h⟩,λk a=>τ a,aA.refl _ _⟩;unfold xR;rw[ύ b4];rfl
 Cc:=by
  rintro w c R s l b⟨rb,aY,fv,av,ab,I,h⟩ B;refine ψ (I4 w c rb aY fv av s.room s.es _ _ s.kn h.r s.fs s.ls h.f h.i.f500 (λk a=>(h.i.src _ (κ a)).2.1) l b _ ⟨V,V⟩ (match iF s.1 l with|some E=>(s.rs E.dst).dn.isSome|none=>false) (λk a e=>?_)) ?_
  .have y:iF s.1 l=some s.fs[k]:=by unfold iF;rw[ώ V,(V:l.toNat-1=k),σ a]
   rw[y]
  .rintro e w'⟨rfl,g⟩;refine⟨?_,g⟩;have u:IZ s.fs.length (match iF s.1 l with|some E=>(s.rs E.dst).dn.isSome|none=>false) l b ((fH s.1 l).1.size:Int)=kW s l b:=by
    unfold IZ kW fH;by_cases q:1<=l/\l<=s.fs.length
    .have y:iF s.1 l=some (s.fs[l.toNat-1]'V):=by unfold iF;rw[ώ q,σ]
     rw[ώ q,y]
    .have y:iF s.1 l=none:=by unfold iF;rw[ύ q]
     rw[ύ q,y]
   rw[u] }
