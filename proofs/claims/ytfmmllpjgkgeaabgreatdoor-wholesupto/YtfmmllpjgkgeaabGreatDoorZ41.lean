import Derived.Test.YtfmmllpjgkgeaabGreatDoorZ04
import Derived.Test.YtfmmllpjgkgeaabGreatDoorZ40
set_option linter.all false
set_option maxHeartbeats 0
set_option maxRecDepth 100000
namespace Go.Proofs.YtfmmllpjgkgeaabGreatDoor
section
open Go.RowKit Go.Maps Go.WideMaps
def Thk.Yb(l:Thk.Bs)(c:Thk.Ch)(h:Thk.read l=.inr c):Thk.fits (Thk.kindOf c.path) c.act=true:=by
 unfold Thk.read at h;split at h
 .cases h
 .unfold Thk.jf at h;split at h
  .cases h
  .split at h
   .cases h
   .rename_i h3;have e:=sN h;rw[e];simpa using h3
def ak4{e:Ev}{t:Thk.Bs}(h:Thk.read t=.inr (nM e)):Np e:=by obtain⟨b,c,d,f,_⟩:=Thk.xM _ _ h;have a:=Thk.Yb _ _ h;unfold nM at b c d f a;simp only at b c d f a;exact⟨a,by rw[<- aB];omega,by rw[<- aB];omega,V,V⟩
def fM(s:St)(ds:List bI)(j:Nat):Hs:=⟨s.kn.getD j [],(ds[j]?.map RD.K).getD (λ_=>0),(ds[j]?.map RD.C).getD (λ_=>none)⟩
def jO(s:St)(ds:List bI)(j:Nat)(h:j<ds.length):fM s ds j=⟨s.kn.getD j [],ds[j].K,ds[j].C⟩:=by unfold fM;simp[h]
def uh(n:Nat)(fs:List lH)(P:Nat->Hs->Prop)(o:Nat->Hs)(b:Nat×ByteArray)(f:lH):Prop :=
 b.1=f.dst/\b.2=f.bytes/\f.dst<n/\f.src<n/\f.src≠f.dst/\f.bytes.size<=700000 /\
 (0<f.ack->∃t g,P f.dst t/\t.le (o f.src)/\ay f.bytes=bM (kG f.src (cnt t.kn))/\fs[f.ack-1]?=some g/\cnt t.kn=cnt g.known/\g.src=f.dst/\g.dst=f.src/\g.ack=0) /\
 (¬0<f.ack->∃h S C rs its,P f.src h/\h.kn=f.known/\ay f.bytes=bM (jI f.src (cnt h.kn) rs its)/\dW S C rs its/\Brings ⟨λd=>1<=nth d/\S d,C⟩ h.pG (o f.dst).pG)
def uh.imp{n:Nat}{p fs':List lH}{P m:Nat->Hs->Prop}{o l:Nat->Hs}{b:Nat×ByteArray}{f:lH}(s:uh n p P o b f)(t:∀(k:Nat)g,p[k]?=some g->fs'[k]?=some g)(q:∀j x,P j x->m j x)(r:∀j,(o j).pG.le (l j).pG/\(o j).le (l j)):uh n fs' m l b f:=by
 obtain⟨f1,f2,f3,f4,f5,f6,f7,f8⟩:=s;refine⟨f1,f2,f3,f4,f5,f6,λi=>?_,λi=>?_⟩
 .obtain⟨w,g,a,c,d,e,h⟩:=f7 i;exact⟨w,g,q _ _ a,c.trans (r _).2,d,t _ _ e,h⟩
 .obtain⟨x,S,C,v,u,a,c,d,e,h⟩:=f8 i;exact⟨x,S,C,v,u,q _ _ a,c,d,e,h.later (r _).1⟩
structure cZ(w:World)(x:Nat)(S:Nat->Prop)(s:St)(A:Nat)(pd:Nat->Nat)(q cap:Nat)(fv:Value)(ds:List bI)(bs:List (Nat×ByteArray))(D:List Nat)(P:Nat->Hs->Prop):Prop where
 kK:aV w x q cap fv 0 ds bs
 own:∀k,S k↔k=x\/k=q\/fv.ownBlock=some k\/∃j,∃h:j<ds.length,ds[j].own k
 len:s.kn.length=ds.length
 oD:uX s.es D ds.length
 hist:∀j(h:j<ds.length),iH s.es D j (P j) (fM s ds) (fM s ds j) ds[j]
 dom:∀j(h:j<ds.length)i y,i<ds.length->P i y->y.K j<=ds[j].K j
 mine:∀j(h:j<ds.length)d,d∈D->who d=j->nth d<=ds[j].K j+pd j
 Vs:∀j,pd j<=1
 sum:lF ds ds.length=A
 r505:kH D<=505
 src:∀e∈s.es,∃t,Thk.read t=.inr (nM e)
 o9:bs.length=s.fs.length
 Qm:∀j(h:j<bs.length)(h':j<s.fs.length),uh ds.length s.fs P (fM s ds) bs[j] s.fs[j]
section
variable{w w':World}{x:Nat}{S:Nat->Prop}{s:St}{A:Nat}{pd:Nat->Nat}{q cap:Nat}{fv:Value}{ds:List bI}{bs:List (Nat×ByteArray)}{D:List Nat}{P:Nat->Hs->Prop}
def cZ.tie(h:cZ w x S s A pd q cap fv ds bs D P)(j:Nat)(a:j<ds.length):Kn s.es D (s.kn.getD j []) ds[j].K ds[j].C:=by have:=(h.hist j a).ok _ (h.hist j a).now;rw[jO s ds j a]at this;exact this
def cZ.size(h:cZ w x S s A pd q cap fv ds bs D P)(j:Nat)(a:j<ds.length):cnt (s.kn.getD j [])=aF ds[j].K:=(h.tie j a).size h.oD h.kK.len (h.kK.rep j a).nI
def cZ.aJ{M:Nat->Prop}(h:cZ w x S s A pd q cap fv ds bs D P)(b:aA M w w')(a:∀k,S k->¬M k):cZ w' x S s A pd q cap fv ds bs D P :=
 ⟨h.kK.aJ b (a x ((h.own x).2 (τ rfl))) (a q ((h.own q).2 (υ (τ rfl)))) (λj d k e=>a k ((h.own k).2 (υ (υ (υ ⟨j,d,e⟩))))) (λg c=>a g ((h.own g).2 (υ (υ (τ c))))),h.own,h.len,h.oD,h.hist,h.dom,h.mine,h.Vs,h.sum,h.r505,h.src,h.o9,h.Qm⟩
def cZ.tags(h:cZ w x S s A pd q cap fv ds bs D P){k:Nat}(b:S k){t:TypeId}(a:Tagged w k t):¬isRef t/\t≠4/\t≠42/\t≠29/\t≠33:=by
 have key:t=77\/t=78\/t=108\/t=129\/t=184\/t=225\/t=187:=by
  rcases(h.own k).1 b with rfl|rfl|b|⟨j,c,d⟩
  .exact τ (Ro h.kK.blk a)
  .obtain⟨f,e,_⟩:=h.kK.row;exact υ (τ (Ro e a))
  .exact υ (υ (τ (rC a (h.kK.frT k b))))
  .exact υ (υ (υ (h.kK.XV j c d a)))
 unfold isRef;rcases key with rfl|rfl|rfl|rfl|rfl|rfl|rfl<;>decide
def cZ.lt(h:cZ w x S s A pd q cap fv ds bs D P){k:Nat}(a:S k):k<w.heap.size:=by
 rcases(h.own k).1 a with rfl|rfl|a|⟨j,b,c⟩
 .exact h.kK.blk.lt
 .obtain⟨e,d,_⟩:=h.kK.row;exact d.lt
 .exact(h.kK.frT k a).lt
 .exact(h.kK.rep j b).lt c
end
def Yc(ds:List bI)(k:Nat)(a:k<ds.length)(d:bI)(j:Nat):yQ (ds.set k d) j=if j=k then d.K k else yQ ds j:=by
 unfold yQ;rw[List.getElem?_set];by_cases e:k=j
 .subst e;simp[a]
 .rw[ύ e,ύ (λh=>e h.symm)]
def uj(ds:List bI)(k:Nat)(b:k<ds.length)(d:bI):∀m,lF (ds.set k d) m+(if k<m then ds[k].K k else 0)=lF ds m+(if k<m then d.K k else 0)
 | 0=>by simp[lF]
 | m+1=>by
  have c:=uj ds k b d m;rw[lF,lF,Yc ds k b];by_cases e:m=k
  .subst e;rw[ώ rfl,ώ V,ώ V];rw[ύ V,ύ V]at c;rw[Jr ds m b];omega
  .rw[ύ e];by_cases a:k<m
   .rw[ώ a,ώ a]at c;rw[ώ V,ώ V];omega
   .rw[ύ a,ύ a]at c;rw[ύ V,ύ V];omega
def Ns(b:List (List Bool))(k:Nat)(c:k<b.length)(a:List Bool)(j:Nat):(b.set k a).getD j []=if k=j then a else b.getD j []:=by
 rw[ξ,List.getElem?_set];by_cases e:k=j
 .subst e;simp[c]
 .rw[ύ e,ύ e,ξ]
def Yd(ds:List bI){pd:Nat->Nat}(b:∀j,pd j<=1){k:Nat}(d:pd k=0):∀m,sumTo (λj=>yQ ds j+pd j) m+(if k<m then 1 else 0)<=lF ds m+m
 | 0=>by simp[sumTo,lF]
 | m+1=>by
  have a:=Yd ds b d m;have:=b m;rw[sumTo,lF];by_cases e:k=m
  .subst e;rw[ύ V]at a;rw[ώ V,d];omega
  .by_cases c:k<m
   .rw[ώ c]at a;rw[ώ V];omega
   .rw[ύ c]at a;rw[ύ V];omega
def cZ.real{w:World}{x:Nat}{S:Nat->Prop}{s:St}{A:Nat}{pd:Nat->Nat}{q cap:Nat}{fv:Value}{ds:List bI}{bs:List (Nat×ByteArray)}{D:List Nat}{P:Nat->Hs->Prop}(h:cZ w x S s A pd q cap fv ds bs D P){k:Nat}(g:k<ds.length)(i:pd k=0):kH D<=A+5:=by
 have l:kH D<=sumTo (λj=>yQ ds j+pd j) ds.length:=by
  rw[<- zS];refine lN (List.Pairwise.filter _ h.oD.nd) (λd f=>?_);obtain⟨a,c⟩:=ϑf.1 f;obtain⟨m,e⟩:=h.oD.ok d a;have b:=(e (by simpa using c)).1;have n:=h.mine _ b d a rfl;rw[List.mem_flatMap];refine⟨who d,ϑp.2 b,ι.2 ⟨nth d-1,ϑp.2 ?_, ?_⟩⟩
  .show _<yQ ds (who d)+pd (who d);rw[Jr ds _ b];omega
  .rw[(V:nth d-1+1=nth d),xZ]
 have a:=Yd ds h.Vs i ds.length;rw[ώ g]at a;have:=h.sum;have:=h.kK.len;omega
section
variable{w w':World}{x:Nat}{S:Nat->Prop}{s:St}{A:Nat}{pd:Nat->Nat}{q cap:Nat}{fv:Value}{ds:List bI}{bs:List (Nat×ByteArray)}{D:List Nat}{P:Nat->Hs->Prop}
def cZ.keep(h:cZ w x S s A pd q cap fv ds bs D P)(a:aV w' x q cap fv 0 ds bs):cZ w' x S s A pd q cap fv ds bs D P:=⟨a,h.own,h.len,h.oD,h.hist,h.dom,h.mine,h.Vs,h.sum,h.r505,h.src,h.o9,h.Qm⟩
def cZ.sx(h:cZ w x S s A pd q cap fv ds bs D P)(a:aA (λk=>k=x) w w'):aA S w w':=a.wide (λk e=>(h.own k).2 (τ e))
def cZ.sc(h:cZ w x S s A pd q cap fv ds bs D P)(a:aA (fK x ds) w w'):aA S w w':=a.wide (λk e=>(h.own k).2 (by
 rcases e with e|e
 .exact τ e
 .exact υ (υ (υ e))))
def Jy(x q:Nat)(fv:Value)(ds:List bI)(b:Nat):Prop:=b=x\/b=q\/fv.ownBlock=some b\/∃j,∃h:j<ds.length,ds[j].own b
def cZ.zU(h:cZ w x S s A pd q cap fv ds bs D P){eX:Value}{k:Nat}(l:k<ds.length){r':RD}(n:jo w.heap.size ds[k] r')(m:∀g,eX.ownBlock=some g->fv.ownBlock=some g\/w.heap.size<=g):∀b,Jy x q eX (ds.set k r') b->S b\/w.heap.size<=b:=by
 intro b d;rcases d with rfl|rfl|d|⟨j,f,a⟩
 .exact τ ((h.own _).2 (τ rfl))
 .exact τ ((h.own _).2 (υ (τ rfl)))
 .exact(m b d).imp (λc=>(h.own _).2 (υ (υ (τ c)))) id
 .have i:j<ds.length:=by simpa using f
  rw[ϑi]at a;by_cases e:k=j
  .rw[ώ e]at a;exact(n.own b a).imp (λc=>(h.own _).2 (υ (υ (υ ⟨k,l,c⟩)))) id
  .rw[ύ e]at a;exact τ ((h.own _).2 (υ (υ (υ ⟨j,i,a⟩))))
def cZ.yQ(h:cZ w x S s A pd q cap fv ds bs D P){eX:Value}(d:∀g,eX.ownBlock=some g->fv.ownBlock=some g\/w.heap.size<=g):∀b,Jy x q eX ds b->S b\/w.heap.size<=b:=by
 intro b a;rcases a with rfl|rfl|a|a
 .exact τ ((h.own _).2 (τ rfl))
 .exact τ ((h.own _).2 (υ (τ rfl)))
 .exact(d b a).imp (λc=>(h.own _).2 (υ (υ (τ c)))) id
 .exact τ ((h.own _).2 (υ (υ (υ a))))
def yU(s:St)(ds:List bI){k:Nat}(a:k<ds.length)(b:s.kn.length=ds.length)(es':List Ev)(UY:List Bool)(fs':List lH)(r':RD)(j:Nat):fM ⟨es',s.kn.set k UY,fs'⟩ (ds.set k r') j=if k=j then⟨UY,r'.K,r'.C⟩else fM s ds j:=by
 unfold fM;show Hs.mk ((s.kn.set k UY).getD j []) _ _=_;rw[Ns _ _ (by rw[b];exact a),List.getElem?_set];by_cases e:k=j
 .subst e;simp[a]
 .rw[ύ e,ύ e,ύ e]
def mX(s:St)(ds:List bI){k:Nat}(c:k<ds.length){r':RD}(b:r'.K=ds[k].K)(a:r'.C=ds[k].C):fM s (ds.set k r')=fM s ds:=by
 funext j;unfold fM;rw[List.getElem?_set];by_cases e:k=j
 .subst e;simp[c,b,a]
 .rw[ύ e]
def cZ.same(h:cZ w x S s A pd q cap fv ds bs D P){k:Nat}(d:k<ds.length){r':RD}(e:r'.K=ds[k].K)(o:r'.C=ds[k].C)(p:iH s.es D k (P k) (fM s ds) (fM s ds k) r')(r:aV w' x q cap fv 0 (ds.set k r') bs):cZ w' x (Jy x q fv (ds.set k r')) s A pd q cap fv (ds.set k r') bs D P:=by
 have i:=mX s ds d e o;refine⟨r,λB=>Iff.rfl,by simp[h.len],by rw[List.length_set];exact h.oD,λj b=>?_,λj b v y t u=>?_,λj b g l m=>?_,h.Vs, ?_,h.r505,h.src,h.o9,λj f n=>?_⟩
 .have c:j<ds.length:=by simpa using b
  rw[i,ϑi];by_cases a:k=j
  .subst a;rw[ώ rfl];exact p
  .rw[ύ a];exact h.hist j c
 .have c:j<ds.length:=by simpa using b
  have:=h.dom j c v y (by simpa using t) u;rw[ϑi];by_cases a:k=j
  .subst a;rw[ώ rfl,e];exact this
  .rw[ύ a];exact this
 .have c:j<ds.length:=by simpa using b
  rw[ϑi];by_cases a:k=j
  .subst a;rw[ώ rfl,e];exact h.mine k d g l m
  .rw[ύ a];exact h.mine j c g l m
 .have f:=uj ds k d r' ds.length;rw[ώ d,ώ d,e]at f;have:=h.sum;rw[List.length_set];omega
 .rw[List.length_set,i];exact h.Qm j f n
def uY{c : Type}(l:List c)(a:c)(j:Nat)(h:j<(l++[a]).length):(∃e:j<l.length,(l++[a])[j]=l[j])\/(j=l.length/\(l++[a])[j]=a):=by
 by_cases b:j<l.length
 .exact τ ⟨b,ϑk b⟩
 .have d:j=l.length:=by simp at h;omega
  exact υ ⟨d,by rw[ϑu V];simp⟩
def uZ{b : Type}{l l2:List b}{k:Nat}{a:b}(h:l[k]?=some a):(l++l2)[k]?=some a:=by rw[ε (ϑn.1 h).1];exact h
def cZ.Ye(h:cZ w x S s A pd q cap fv ds bs D P){eX:Value}{b:Nat×ByteArray}{f:lH}(k:aV w' x q cap eX 0 ds (bs++[b]))(l:uh ds.length (s.fs++[f]) P (fM s ds) b f):cZ w' x (Jy x q eX ds) ⟨s.es,s.kn,s.fs++[f]⟩ A pd q cap eX ds (bs++[b]) D P:=by
 refine⟨k,λb=>Iff.rfl,h.len,h.oD,h.hist,h.dom,h.mine,h.Vs,h.sum,h.r505,h.src,by simp[h.o9],λj g i=>?_⟩;have o:=h.o9;rcases uY bs b j g with⟨d,a⟩|⟨d,a⟩<;>rcases uY s.fs f j i with⟨e,c⟩|⟨e,c⟩
 .rw[a];show uh _ _ _ _ _ ((s.fs++[f])[j]);rw[c];exact(h.Qm j d e).imp (λp n m=>uZ m) (λ_ _ h=>h) (λj=>⟨qW.le.refl _,Hs.le.refl _⟩)
 .omega
 .omega
 .rw[a];show uh _ _ _ _ _ ((s.fs++[f])[j]);rw[c];exact l
def cZ.learnt(h:cZ w x S s A pd q cap fv ds bs D P){k:Nat}(p:k<ds.length){r':RD}{UY:List Bool}{es':List Ev}{D':List Nat}{m:Hs->Prop}{eX:Value}{bs':List (Nat×ByteArray)}{fs':List lH}{A':Nat}{pd':Nat->Nat}(C:uX es' D' ds.length)(H:∀y:Hs,y.Ok s.es D->y.Ok es' D')(G:(fM s ds k).le ⟨UY,r'.K,r'.C⟩)(r:iH es' D' k m (fM s ds) ⟨UY,r'.K,r'.C⟩ r')(T:∀y,P k y->m y)(U:∀y,m y->P k y\/y=⟨UY,r'.K,r'.C⟩)(E:∀j(f:j<ds.length),ds[k].K j<=r'.K j/\(k≠j->r'.K j<=ds[j].K j))(hm:∀j(f:j<ds.length)n,n∈D'->who n=j->nth n<=(if k=j then r' else ds[j]).K j+pd' j)(a2:∀j,pd' j<=1)(hs:lF (ds.set k r') ds.length=A')(R:kH D'<=505)(a3:∀e∈es',∃t,Thk.read t=.inr (nM e))(W:bs'.length=fs'.length)(a0:∀(k2:Nat)g,s.fs[k2]?=some g->fs'[k2]?=some g)(Z:∀j(o:j<bs'.length)(B:j<fs'.length),(∃(a:j<bs.length)(b:j<s.fs.length),bs'[j]=bs[j]/\fs'[j]=s.fs[j])\/uh ds.length fs' (λj y=>if k=j then m y else P j y) (λj=>if k=j then⟨UY,r'.K,r'.C⟩else fM s ds j) bs'[j] fs'[j])(X:aV w' x q cap eX 0 (ds.set k r') bs'):cZ w' x (Jy x q eX (ds.set k r')) ⟨es',s.kn.set k UY,fs'⟩ A' pd' q cap eX (ds.set k r') bs' D' (λj y=>if k=j then m y else P j y):=by
 have N:=yU s ds p h.len es' UY fs' r';have u:∀j,(fM s ds j).pG.le ((if k=j then(⟨UY,r'.K,r'.C⟩:Hs)else fM s ds j)).pG/\(fM s ds j).le (if k=j then(⟨UY,r'.K,r'.C⟩:Hs)else fM s ds j):=λj=>by
  by_cases e:k=j
  .subst e;rw[ώ rfl];exact⟨Hs.sle (H _ ((h.hist k p).ok _ (h.hist k p).now)) (r.ok _ r.now) C G,G⟩
  .rw[ύ e];exact⟨qW.le.refl _,Hs.le.refl _⟩
 have F:=funext N;refine⟨X,λb=>Iff.rfl,by simp[h.len],by rw[List.length_set];exact C,λj f=>?_,λj f i y a4 c=>?_,λj f n Y hw=>?_,a2,by rw[List.length_set];exact hs,R,a3,W,λj o B=>?_⟩
 .have l:j<ds.length:=by simpa using f
  rw[F,ϑi];by_cases d:k=j
  .subst d;simp only[ώ];exact r.step (λy _ c=>c) u
  .simp only[ύ d];exact(h.hist j l).step (λy _ c=>H y c) u
 .have l:j<ds.length:=by simpa using f
  have a1:i<ds.length:=by simpa using a4
  have K:∀i y,i<ds.length->P i y->y.K j<=(ds.set k r')[j].K j:=λi y a4 c=>by
   have o:=h.dom j l i y a4 c;rw[ϑi];by_cases d:k=j
   .subst d;rw[ώ rfl];exact ς o (E k p).1
   .rw[ύ d];exact o
  by_cases v:k=i
  .subst v;rw[ώ rfl]at c;rcases U y c with c|rfl
   .exact K k y p c
   .rw[ϑi];by_cases d:k=j
    .subst d;rw[ώ rfl];exact χ _
    .rw[ύ d];exact(E j l).2 d
  .rw[ύ v]at c;exact K i y a1 c
 .have l:j<ds.length:=by simpa using f
  have:=hm j l n Y hw;rw[ϑi];exact this
 .rw[List.length_set,F];rcases Z j o B with⟨a,b,L,M⟩|Q
  .rw[L];show uh _ _ _ _ _ (fs'[j]);rw[M];exact(h.Qm j a b).imp a0 (λj y c=>by
    by_cases e:k=j
    .subst e;rw[ώ rfl];exact T y c
    .rw[ύ e];exact c) u
  .exact Q
end
section
variable{es:List Ev}{D:List Nat}{n:Nat}{k1 k2:List Bool}{K1 K2:Nat->Nat}{C1 C2:Nat->Option Thk.Ch}
def UZ(a:Kn es D k1 K1 C1)(b:Kn es D k2 K2 C2)(k:∀j,k1.getD j false=true->k2.getD j false=true){r:RD}(f:r.K=K1)(c:r.C=C1)(n:∃d,1<=nth d/\eY r K2 C2 d):cnt k1<cnt k2:=by refine ϑc λl=>?_;have o:=(uK k1 k2 es.length k a.len b.len).2 l;obtain⟨e,g⟩:=a.uniq b (λj=>(o j).symm);obtain⟨d,h,i,m⟩:=n;subst f c;exact m ⟨(g d h).2 i,by rw[e]⟩
def Nu(h:Kn es D k1 K1 C1)(b:Kn es D k2 K2 C2)(c:uX es D n){r:RD}(i:r.K=K1)(m:∀d,1<=nth d->¬eY r K2 C2 d):∀j,k2.getD j false=true->k1.getD j false=true:=by
 intro j a;subst i;have f:j<D.length:=by rw[c.len];refine ϑc λo=>?_;have:=b.len;rw[iT V]at a;cases a
 have e:=σ f;have k:=(b.vec j _ e).1 a;refine(h.vec j _ e).2 (ϑc λl=>?_);exact m D[j] (c.ok _ (κ f)).1 ⟨k,λg=>l g.1⟩
def aa2{a b c o:Hs}(q:a.Ok es D)(r:b.Ok es D)(p:uX es D n)(i:c.K=jJ b.K a.K/\c.C=jC b.K b.C a.K a.C)(g:a.pG.le o.pG):zT b c o:=by
 intro e j t;have s:qW.join a.pG b.pG c.pG:=by have:=Kn.ad8 r q p;unfold Hs.pG;rw[i.1,i.2];exact this
 obtain⟨u,m,v⟩:=s;obtain⟨k,l⟩:=t;by_cases f:c.C e=none
 .rcases(m e).1 ⟨⟨j,k⟩,f⟩with d|d
  .exact⟨g.s e d.1,λ_=>g.g e d⟩
  .exact absurd ⟨d.1.2,⟨λ_=>d.2,λ_=>f⟩⟩ l
 .refine⟨?_,λh=>absurd h f⟩;rcases(u e).1 ⟨j,k⟩with d|d
  .exact g.s e d
  .refine absurd ⟨d.2,⟨λh=>absurd h f,λh=>?_⟩⟩ l;exact((m e).2 (υ ⟨d,h⟩)).2
end
def jK(a b:List Bool):(∀j,a.getD j false=true->(bH a b).getD j false=true)/\∀j,b.getD j false=true->(bH a b).getD j false=true:=⟨λj h=>by rw[fG,h];rfl,λj h=>by rw[fG,h];simp⟩
section
variable{w w':World}{x:Nat}{S:Nat->Prop}{s:St}{A:Nat}{pd:Nat->Nat}{q cap:Nat}{fv:Value}{ds:List bI}{bs:List (Nat×ByteArray)}{D:List Nat}{P:Nat->Hs->Prop}
def cZ.doB(h:cZ w x S s A pd q cap fv ds bs D P){t:Thk.Bs}{c:Thk.Ch}(E:Thk.read t=.inr c){k:Nat}(b:k<ds.length)(L:A<500)(C:pd k=0):dX k (ds[k].K k+1) ∉ D/\ds[k].K k+1<=500/\jT (fst (inc ds[k].K k)) (iD ds[k].C c (dX k (ds[k].K k+1))) /\ (∀e:Ev,nM e=c->uX (s.es++[e]) (D++[dX k (ds[k].K k+1)]) ds.length)/\kH (D++[dX k (ds[k].K k+1)])<=505:=by
 have y:=h.tie k b;have K:=zN ds k b ds.length b (χ _);have N:=h.sum;have M:=h.kK.len;have j:ds[k].K k+1<=500:=V
 have i:kH (D++[dX k (ds[k].K k+1)])<=505:=by
  have a:=h.real b C;have H:kH (D++[dX k (ds[k].K k+1)])<=kH D+1:=by unfold kH;rw[ϑH,ρ];have:=List.length_filter_le (λd=>decide (who d<6)) [dX k (ds[k].K k+1)];simp only[List.length_singleton]at this;omega
  omega
 have o:who (dX k (ds[k].K k+1))=k:=dI V;have n:nth (dX k (ds[k].K k+1))=ds[k].K k+1:=dG V;have g:dX k (ds[k].K k+1) ∉ D:=λB=>by have:=h.mine k b _ B o;rw[n]at this;omega
 have m:∀e:Ev,nM e=c->uX (s.es++[e]) (D++[dX k (ds[k].K k+1)]) ds.length:=λe _=>by
  refine⟨by simp[h.oD.len], ?_,λd u=>?_⟩
  .rw[List.nodup_append];exact⟨h.oD.nd,Ω,λF r G l p=>by simp at l;subst l;subst p;exact g r⟩
  .rcases θ.1 u with a|a
   .exact h.oD.ok d a
   .simp at a;subst a;rw[o,n];exact⟨V,λ_=>⟨b,V⟩⟩
 refine⟨g,j, ?_,m,i⟩;have f:nM ⟨⟨c.path.toArray⟩,c.act,⟨c.val.toArray⟩,c.n,s.kn.getD k []⟩=c:=by unfold nM;simp[ay]
 have hkn:=y.mine h.oD ⟨⟨c.path.toArray⟩,c.act,⟨c.val.toArray⟩,c.n,s.kn.getD k []⟩ c f rfl k V j g;refine hkn.UW (m _ f) h.kK.len i (λe v=>?_);rcases θ.1 v with a|a
 .exact h.src e a
 .rw[ϑe]at a;rw[a];exact⟨t,by rw[f];exact E⟩
def cZ.done(h:cZ w x S s A pd q cap fv ds bs D P){t:Thk.Bs}{c:Thk.Ch}(M:Thk.read t=.inr c){k:Nat}(b:k<ds.length)(hl:A<500)(hp:pd k=0){e:Ev}(he:Y4 c (s.kn.getD k []) e){r':RD}(B:yR w.heap.size ds[k] k (inc ds[k].K k) (iD ds[k].C c (dX k (ds[k].K k+1))) r')(C:aV w' x q cap fv 0 (ds.set k r') bs):∃u D' T,cZ w' x u ⟨s.es++[e],s.kn.set k (dw (s.kn.getD k []) s.es.length),s.fs⟩ (A+1) pd q cap fv (ds.set k r') bs D' T/\(∀n,u n->S n\/w.heap.size<=n)/\(∀y:Hs,y.Ok s.es D->y.Ok (s.es++[e]) D')/\∀(m d:Nat),D[m]?=some d->D'[m]?=some d:=by
 obtain⟨W,X,Y,Z,e5⟩:=he;have i:nM e=c:=by unfold nM;rw[W,X,Y,Z]
 obtain⟨L,a0,_,F,R⟩:=h.doB M b hl hp;have a6:=h.kK.len;have G:=h.tie k b;have vI:=B.nK;obtain⟨io,co,lo,st,pv,rfl,hS,hI,_⟩:=B;have K:nth (dX k (ds[k].K k+1))=ds[k].K k+1:=dG V;have a5:who (dX k (ds[k].K k+1))=k:=dI V;have hkn:=G.mine h.oD e c i e5 k V a0 L;have p:∀y:Hs,y.Ok s.es D->y.Ok (s.es++[e]) (D++[dX k (ds[k].K k+1)]):=λy f=>Kn.other f h.oD e _ L (by rw[K];omega);have H:(fM s ds k).le ⟨dw (s.kn.getD k []) s.es.length,inc ds[k].K k,iD ds[k].C c (dX k (ds[k].K k+1))⟩:=λQ hi=>by show(dw (s.kn.getD k []) s.es.length).getD Q false=true;rw[ru _ _ G.len];have:(s.kn.getD k []).getD Q false=true:=hi;rw[this];(first|done|rfl)
 have N:=C.rep k (by simpa using b);rw[ϑi,ώ rfl]at N;have a3:∀y,inc ds[k].K k y<=500:=N.nI;have a4:=hkn.size (F e i) h.kK.len a3;have hH:=((h.hist k b).step (es':=s.es++[e]) (D':=D++[dX k (ds[k].K k+1)]) (λy _ f=>p y f) (λj=>⟨qW.le.refl _,Hs.le.refl _⟩)).add (cur':=⟨dw (s.kn.getD k []) s.es.length,inc ds[k].K k,iD ds[k].C c (dX k (ds[k].K k+1))⟩) hkn H (by show cnt (s.kn.getD k [])<cnt (dw (s.kn.getD k []) s.es.length);rw[BU];omega) a4.symm (io:=io) (co:=co) (lo:=lo) (pv:=pv) (fr:=k) (st:=st) hS hI (λr=>absurd rfl r);have a2:∀j,ds[k].K j<=inc ds[k].K k j:=λj=>by
  by_cases a7:j=k
  .rw[a7,dU];omega
  .rw[gQ a7];exact χ _
 have hF:=h.learnt b (eX:=fv) (bs':=bs) (fs':=s.fs) (A':=A+1) (pd':=pd) (F e i) p H hH (λy f=>τ f) (λy f=>f) (λj o=>⟨a2 j,λr=>?_⟩) (λj o d E l=>?_) h.Vs ?_ R (λU a1=>?_) h.o9 (λ_ _ h=>h) (λj a v=>τ ⟨a,v,rfl,rfl⟩) C
 .exact⟨_,_,_,hF,h.zU b vI (λg hg=>τ hg),p,λm d=>uZ⟩
 .show inc ds[k].K k j<=_;rw[gQ (Ne.symm r)];have:=h.dom j o k _ b (h.hist k b).now;rw[jO s ds k b]at this;exact this
 .by_cases a7:k=j
  .subst a7;rw[ώ rfl];show nth d<=inc ds[k].K k k+pd k;rw[dU];rcases θ.1 E with a|a
   .have:=h.mine k b d a l;omega
   .simp at a;subst a;rw[K];omega
  .rw[ύ a7];rcases θ.1 E with a|a
   .exact h.mine j o d a l
   .simp at a;subst a;rw[a5]at l;exact absurd l a7
 .have a:=uj ds k b (ds[k].more io co lo pv k st (inc ds[k].K k) (iD ds[k].C c (dX k (ds[k].K k+1)))) ds.length;rw[ώ b,ώ b]at a;have v:=h.sum;have h3:(ds[k].more io co lo pv k st (inc ds[k].K k) (iD ds[k].C c (dX k (ds[k].K k+1)))).K k=ds[k].K k+1:=dU _ _;rw[h3]at a;omega
 .rcases θ.1 a1 with a|a
  .exact h.src U a
  .simp at a;subst a;exact⟨t,by rw[i];exact M⟩
def cZ.sent(h:cZ w x S s A pd q cap fv ds bs D P){eX:Value}{k a:Nat}(c:k<ds.length)(d:a<ds.length)(i:k≠a){b:ByteArray}(y:XY b ds[k] a)(B:aV w' x q cap eX 0 ds (bs++[(a,b)]))(C:∀g,eX.ownBlock=some g->fv.ownBlock=some g\/w.heap.size<=g):∃e,cZ w' x e ⟨s.es,s.kn,s.fs++[⟨k,a,0,s.kn.getD k [],b⟩]⟩ A pd q cap eX ds (bs++[(a,b)]) D P/\∀g,e g->S g\/w.heap.size<=g:=by
 obtain⟨m,C2,l,j,o,p,r,t,u⟩:=y;have hF:=h.Ye (f:=⟨k,a,0,s.kn.getD k [],b⟩) B ⟨rfl,rfl,d,c,i,u,λv=>absurd v Ω,λ_=>⟨fM s ds k,m,C2,l,j,(h.hist k c).now,rfl, ?_,t, ?_⟩⟩
 .exact⟨_,hF,h.yQ C⟩
 .show ay b=bM (jI k (cnt (s.kn.getD k [])) l j);rw[r,(h.kK.ra k c).1,h.size k c]
 .exact(h.hist k c).brings h.oD h.kK.len h.r505 h.src (λn=>i n.symm) ((h.hist a d).ok _ (h.hist a d).now) p o
def cZ.joins(h:cZ w x S s A pd q cap fv ds bs D P){k:Nat}(c:k<ds.length){y:Hs}(i:y.Ok s.es D):Kn s.es D (bH (s.kn.getD k []) y.kn) (jJ ds[k].K y.K) (jC ds[k].K ds[k].C y.K y.C)/\(∀a,jJ ds[k].K y.K a<=500)/\jT (fst (jJ ds[k].K y.K)) (jC ds[k].K ds[k].C y.K y.C) /\ ((∃d,1<=nth d/\eY ds[k] (jJ ds[k].K y.K) (jC ds[k].K ds[k].C y.K y.C) d)->cnt (s.kn.getD k [])<cnt (bH (s.kn.getD k []) y.kn)/\aF ds[k].K+1<=aF (jJ ds[k].K y.K))/\cnt (bH (s.kn.getD k []) y.kn)=aF (jJ ds[k].K y.K):=by
 have f:=h.tie k c;have b:=f.join i;have e:∀a,jJ ds[k].K y.K a<=500:=λa=>by have l:=(h.kK.rep k c).nI a;have m:=Kn.nI i h.oD a;unfold jJ;omega
 have g:=b.size h.oD h.kK.len e;refine⟨b,e,b.UW h.oD h.kK.len h.r505 h.src,λj=>?_,g⟩;have:=UZ f b (jK _ _).1 rfl rfl j;refine⟨this, ?_⟩;rw[<- g,<- h.size k c];exact this
def cZ.came(h:cZ w x S s A pd q cap fv ds bs D P){eX:Value}{n:List bI}(f:lH)(i k:Nat)(a3:s.fs[i]?=some f)(a0:f.ack=0)(c:k<ds.length)(a4:f.dst=k)(g:f.src<ds.length)(L:f.src≠k){y:Hs}(d:P f.src y)(o:y.kn=f.known){B:Nat}(hB:w.heap.size<=B){b:ByteArray}(K:ay b=bM (kG k (cnt y.kn)))(hD:au8 B ds k c f.src (jJ ds[k].K y.K) (jC ds[k].K ds[k].C y.K y.C) n)(Y:aV w' x q cap eX 0 n (bs++[(f.src,b)]))(hn:∀l,eX.ownBlock=some l->fv.ownBlock=some l\/w.heap.size<=l):∃Q P' v,cZ w' x Q ⟨s.es,v,s.fs++[⟨k,f.src,i+1,[],b⟩]⟩ A pd q cap eX n (bs++[(f.src,b)]) D P'/\(∀l,Q l->S l\/w.heap.size<=l)/\((¬cnt (s.kn.getD k [])<cnt (bH (s.kn.getD k []) f.known)/\v=s.kn/\n=ds)\/(cnt (s.kn.getD k [])<cnt (bH (s.kn.getD k []) f.known)/\v=s.kn.set k (bH (s.kn.getD k []) f.known)/\∃io co lo pv st C C',n=ds.set k (ds[k].more io co lo pv f.src st C C')/\aF C=cnt (bH (s.kn.getD k []) f.known)/\∀N,ds[k].K N<=C N)):=by
 have M:=(h.hist f.src g).ok y d;have a5:=h.tie k c;obtain⟨e,h5,_,ab,a9⟩:=h.joins c M;have X:b.size<=700000:=by rw[<- aB,K];unfold bM kG;have:=aO 1;have:=aO k;have:=aO (cnt y.kn);rw[ρ,LC,ρ,ρ];omega
 rcases hD with⟨ac,rfl⟩|⟨ad,r',W,rfl⟩
 .have a8:=Nu a5 e h.oD rfl ac;have ae:y.le (fM s n k):=λj r=>a8 j ((jK _ _).2 j r);have hF:=h.Ye (f:=⟨k,f.src,i+1,[],b⟩) Y ⟨rfl,rfl,g,c,λp=>L p.symm,X,λ_=>⟨y,f,d,ae,K,uZ a3,by rw[o],rfl,a4,a0⟩,λH=>absurd (Nat.succ_pos i) H⟩;refine⟨_,_,_,hF,h.yQ hn,τ ⟨λu=>?_,rfl,rfl⟩⟩;rw[<- o]at u;have:=(uK _ _ s.es.length a8 e.len a5.len).1;omega
 .have vI:=W.nK.mono hB;obtain⟨io,co,lo,st,pv,rfl,hS,hI,_⟩:=W;obtain⟨u,ag⟩:=ab ad;have Z:=jO s ds k c;have a6:(fM s ds k).le ⟨bH (s.kn.getD k []) y.kn,jJ ds[k].K y.K,jC ds[k].K ds[k].C y.K y.C⟩:=λj r=>(jK _ _).1 j r;have aa:=(h.hist f.src g).top y d;have hH:=(h.hist k c).add (cur':=⟨bH (s.kn.getD k []) y.kn,jJ ds[k].K y.K,jC ds[k].K ds[k].C y.K y.C⟩) e a6 u a9.symm (io:=io) (co:=co) (lo:=lo) (pv:=pv) (fr:=f.src) (st:=st) hS hI (λ_=>by refine aa2 (a:=y) M ((h.hist k c).ok _ (h.hist k c).now) h.oD ?_ (Hs.sle M ((h.hist f.src g).ok _ (h.hist f.src g).now) h.oD aa);rw[Z];exact⟨rfl,rfl⟩);have a7:jJ ds[k].K y.K k=ds[k].K k:=by unfold jJ;have:=h.dom k c f.src y g d;omega
  have hF:=h.learnt c (eX:=eX) (bs':=bs++[(f.src,b)]) (fs':=s.fs++[⟨k,f.src,i+1,[],b⟩]) (A':=A) (pd':=pd) h.oD (λy d=>d) a6 hH (λy d=>τ d) (λy d=>d) (λj e=>⟨by show _<=jJ ds[k].K y.K j;unfold jJ;omega,λ_=>?_⟩) (λj e G hd hw=>?_) h.Vs ?_ h.r505 h.src (by simp[h.o9]) (λ_ _ h=>uZ h) (λj m t=>?_) Y
  .exact⟨_,_,_,hF,h.zU c vI hn,υ ⟨by rw[<- o];exact u,by rw[<- o],io,co,lo,pv,st,_,_,rfl,by rw[<- o];exact a9.symm,λN=>Nat.le_max_left _ _⟩⟩
  .have m:=h.dom j e k _ c (h.hist k c).now;have t:=h.dom j e f.src y g d;rw[Z]at m;show max (ds[k].K j) (y.K j)<=_;exact Nat.max_le.2 ⟨m,t⟩
  .by_cases U:k=j
   .subst U;rw[ώ rfl];show nth G<=jJ ds[k].K y.K k+pd k;rw[a7];exact h.mine k c G hd hw
   .rw[ύ U];exact h.mine j e G hd hw
  .have m:=uj ds k c (ds[k].more io co lo pv f.src st (jJ ds[k].K y.K) (jC ds[k].K ds[k].C y.K y.C)) ds.length;rw[ώ c,ώ c]at m;have t:=h.sum;have h3:(ds[k].more io co lo pv f.src st (jJ ds[k].K y.K) (jC ds[k].K ds[k].C y.K y.C)).K k=ds[k].K k:=a7;rw[h3]at m;omega
  .have af:=h.o9;rcases uY bs (f.src,b) j m with⟨R,E⟩|⟨R,E⟩<;>rcases uY s.fs (⟨k,f.src,i+1,[],b⟩:lH) j t with⟨T,F⟩|⟨T,F⟩
   .exact τ ⟨R,T,E,F⟩
   .omega
   .omega
   .refine υ ?_;rw[E,F];refine⟨rfl,rfl,g,c,λp=>L p.symm,X,λ_=>⟨y,f, ?_, ?_,K,uZ a3,by rw[o],rfl,a4,a0⟩,λH=>absurd (Nat.succ_pos i) H⟩
    .show if k=f.src then _ else P f.src y
     rw[ύ (λp=>L p.symm)];exact d
    .show y.le (if k=k then _ else _);rw[ώ rfl];exact λj r=>(jK _ _).2 j r
def cZ.ad9(h:cZ w x S s A pd q cap fv ds bs D P){es':List Ev}{D':List Nat}{pd':Nat->Nat}(c:uX es' D' ds.length)(g:∀i y,i<ds.length->P i y->y.Ok s.es D->y.Ok es' D')(f:∀j(a:j<ds.length)d,d∈D'->who d=j->nth d<=ds[j].K j+pd' j)(l:∀j,pd' j<=1)(b:kH D'<=505)(m:∀e∈es',∃t,Thk.read t=.inr (nM e)):cZ w x S ⟨es',s.kn,s.fs⟩ A pd' q cap fv ds bs D' P :=
 ⟨h.kK,h.own,h.len,c,λj a=>(h.hist j a).step (λy n k=>g j y a n k) (λj=>⟨qW.le.refl _,Hs.le.refl _⟩),h.dom,f,l,h.sum,b,m,h.o9,h.Qm⟩
def cZ.aD4(h:cZ w x S s A pd q cap fv ds bs D P){t:Thk.Bs}{c:Thk.Ch}(E:Thk.read t=.inr c){k:Nat}(i:k<ds.length)(hl:A<500)(hp:pd k=0){e:Ev}(X:Y4 c (s.kn.getD k []) e){G:Nat->Nat}{F:Nat->Option Thk.Ch}{r':RD}(r:Ee ds[k] G F r')(U:aV w' x q cap fv 0 (ds.set k r') bs):∃p f,cZ w' x p ⟨s.es++[e],s.kn,s.fs⟩ A (aX pd k 1) q cap fv (ds.set k r') bs f P/\(∀l,p l->S l\/w.heap.size<=l)/\Hs.Ok (s.es++[e]) f ⟨dw (s.kn.getD k []) s.es.length,inc ds[k].K k,iD ds[k].C c (dX k (ds[k].K k+1))⟩/\f[s.es.length]?=some (dX k (ds[k].K k+1))/\(∀y:Hs,y.Ok s.es D->y.Ok (s.es++[e]) f)/\∀(m d:Nat),D[m]?=some d->f[m]?=some d:=by
 obtain⟨L,M,N,Q,R⟩:=X;have n:nM e=c:=by unfold nM;rw[L,M,N,Q]
 obtain⟨C,T,_,Z,H⟩:=h.doB E i hl hp;have a1:=h.kK.len;have v:nth (dX k (ds[k].K k+1))=ds[k].K k+1:=dG V;have a0:who (dX k (ds[k].K k+1))=k:=dI V;have u:∀y:Hs,y.Ok s.es D->y.Ok (s.es++[e]) (D++[dX k (ds[k].K k+1)]):=λy hy=>Kn.other hy h.oD e _ C (by rw[v];omega);have hF:=h.ad9 (pd':=aX pd k 1) (Z e n) (λ_ y _ _ ho=>u y ho) (λj hj d W o=>?_) (λj=>?_) H (λK Y=>?_)
 .have vI:=r.nK (B:=w.heap.size);obtain⟨rs,a2,d,_,_,rfl⟩:=r;have b:=hF.hist k i;exact⟨_,_,hF.same i rfl rfl ⟨b.ok,b.nil,b.now,b.cK,b.cC,b.ord,b.top,b.dr,b.ack⟩ U,h.zU i vI (λg hg=>τ hg),(h.tie k i).mine h.oD e c n R k V T C,by rw[<- h.oD.len];simp,u,λm d=>uZ⟩
 .rcases θ.1 W with a|a
  .have:=h.mine j hj d a o;by_cases a3:j=k
   .subst a3;rw[aN];omega
   .rw[aS _ _ a3];exact this
  .rw[ϑe]at a;subst a;rw[a0]at o;subst o;rw[aN,v];exact χ _
 .by_cases a3:j=k
  .subst a3;rw[aN];exact χ _
  .rw[aS _ _ a3];exact h.Vs j
 .rcases θ.1 Y with a|a
  .exact h.src K a
  .rw[ϑe]at a;rw[a];exact⟨t,by rw[n];exact E⟩
def cZ.av3(h:cZ w x S s A pd q cap fv ds bs D P){k m:Nat}(hk:k<ds.length)(v:D[m]?=some (dX k (ds[k].K k+1)))(hK:ds[k].K k+1<=500):∃r,cZ w x S s A (aX pd k 0) q cap fv ds bs r P/\(∀y:Hs,y.Ok s.es D->y.K k<=ds[k].K k->y.Ok s.es r)/\∀(m d:Nat),D[m]?=some d->d≠dX k (ds[k].K k+1)->r[m]?=some d:=by
 obtain⟨B,L⟩:=ϑn.1 v;have a2:=h.kK.len;have R:who (dX k (ds[k].K k+1))=k:=dI V;have N:nth (dX k (ds[k].K k+1))=ds[k].K k+1:=dG V;obtain⟨p,C,F,E⟩:∃p,p ∉ D/\6<=who p/\1<=nth p:=by
  refine ϑc λa0=>?_;have X:∀i,dX (6+i) 1∈D:=λi=>ϑc λhn=>a0 ⟨_,hn,by rw[dI V];omega,by rw[dG V];omega⟩;have:=lN (l:=(List.range (D.length+1)).map λi=>dX (6+i) 1) (m:=D) (by
   unfold List.Nodup;rw[List.pairwise_map];refine List.Pairwise.imp_of_mem ?_ List.nodup_range;intro e b _ _ a1 t;have:=congrArg who t;rw[dI V,dI V]at this;omega) (λd a=>by
   obtain⟨i,_,rfl⟩:=ι.1 a;exact X i)
  simp at this;omega
 have U:∀y:Hs,y.Ok s.es D->y.K k<=ds[k].K k->y.kn.getD m false=false:=λy c T=>by
  cases hh:y.kn.getD m false with
  | false=>rfl
  | true =>have:=(c.vec m _ v).1 hh;rw[R,N]at this;omega
 have M:∀y:Hs,y.Ok s.es D->y.K k<=ds[k].K k->y.Ok s.es (D.set m p):=λy c T=>Kn.lost c B (U y c T) C F E;refine⟨D.set m p,h.ad9 (es':=s.es) (h.oD.lost C F E) (λi y Y c ho=>M y ho (h.dom k hk i y Y c)) (λj Z d a G=>?_) (λj=>?_) ?_ h.src,M,λe d a3 a=>?_⟩
 .rcases ϑJ a with u|rfl
  .have o:=h.mine j Z d u G;by_cases f:j=k
   .subst f;rw[aN];have H:=h.Vs j;by_cases W:nth d=ds[j].K j+1
    .exfalso;have K:d=dX j (ds[j].K j+1):=mJ (by rw[G,R]) (by rw[W,N]);obtain⟨e,a3,n⟩:=ϑd a;rw[List.length_set]at a3;rw[ϑi]at n;split at n
     .rw[<- n]at G;omega
     .rename_i hma;have Q:=List.pairwise_iff_getElem.1 h.oD.nd;rcases Nat.lt_trichotomy m e with g|g|g
      .exact Q m e B a3 g (by rw[L,n,K])
      .exact hma g
      .exact Q e m a3 B g (by rw[L,n,K])
    .omega
   .rw[aS _ _ f];exact o
  .omega
 .by_cases f:j=k
  .subst f;rw[aN];exact Nat.zero_le _
  .rw[aS _ _ f];exact h.Vs j
 .refine ς ?_ h.r505;unfold kH;refine lN (List.Pairwise.filter _ (h.oD.lost C F E).nd) (λd a=>?_);obtain⟨u,o⟩:=ϑf.1 a;rcases ϑJ u with H|rfl
  .exact ϑf.2 ⟨H,o⟩
  .have:who d<6:=by simpa using o
   omega
 .rw[List.getElem?_set_ne (λt=>a ?_)]
  .exact a3
  .subst t;rw[v]at a3;exact(Option.some.inj a3).symm
