import Derived.Test.YtfmmllpjgkgeaabGreatDoorZ30
import Derived.Test.YtfmmllpjgkgeaabGreatDoorZ31
set_option linter.all false
set_option maxHeartbeats 0
set_option maxRecDepth 100000
namespace Go.Proofs.YtfmmllpjgkgeaabGreatDoor
open Go.Proofs.Tryz Go.RowKit Go.Maps Go.WideMaps Go.Shelf
variable{b fr:Nat}{K:Nat->Nat}{r:RD}{w:World}
def qA(w w':World)(r:RD)(fr:Nat)(K:Nat->Nat)(C:Nat->Option Thk.Ch):Prop :=
 ((∀d,1<=nth d->¬eY r K C d)/\cO w' r/\Below w.heap.size w w')\/((∃d,1<=nth d/\eY r K C d)/\∃r',D9 w w' r fr K C r')
def qA.keep{w':World}{C:Nat->Option Thk.Ch}(h:qA w w' r fr K C):aA r.own w w':=by
 rcases h with⟨_,_,h⟩|⟨_,a,h⟩
 .exact aA.of_below h
 .exact h.aJ
def MN(w w':World)(r:RD)(fr:Nat)(K:Nat->Nat)(C:Nat->Option Thk.Ch)(b:Bool):Prop :=
 (b=true/\((∀d,1<=nth d->¬eY r K C d)\/r.cut=false)/\qA w w' r fr K C)\/(b=false/\(∃d,1<=nth d/\eY r K C d)/\r.cut=true/\∀m:Nat,r.k=(m:Int)->oL w w' r m K C)
def XM{h:World}(F:Glob w)(hF:cO w r)(Q:r.dd=none)(u:r.cut=false\/(r.cut=true/\∃m:Nat,r.k=(m:Int)))(K:fr<=5)(d:Below w.heap.size w h){c:List jF}(P:jk h b 0 c)(M:1<=c.length/\c.length<=10){a:Nat->Nat}{f:Nat->Option Thk.Ch}(G:wY (c++[r.known]) a f)(E:jT (fst a) f)(s:∀Y,a Y<=500)(l:(∃i,1<=nth i/\eY r a f i)->aF r.K+1<=aF a):Calls prog 83 #[.pointer (some (z r.rb)),I fr,.slice (some (z b)) c.length c.length] h λp w'=>∃b,p=.returned (.bool b)/\MN w w' r fr a f b/\aA r.own h w':=by
 refine ψ (Gy h (F.mono d) r (hF.below d) Q u fr K b c P M a f G E s l (by have:=tY s;omega)) ?_;rintro p w9 (⟨k,e,rfl,v⟩|⟨e,rfl,⟨N,o⟩|⟨k,R,x,T,X,U,A,B,h3,C,g,D,q⟩⟩)
 .obtain⟨m,j⟩:∃m:Nat,r.k=(m:Int):=u.elim (λy=>by rw[y]at e;cases e) And.right;obtain⟨_,_,_,_,_,_,H⟩:=v m j;refine⟨_,rfl,υ ⟨rfl,k,e,λm j=>?_⟩,H⟩;obtain⟨W,S,i,Z,x2,x3,x4⟩:=v m j;exact⟨W,S,i,Z,x2,x3,aA.pre d x4⟩
 .have t:=d.trans (o.mono d.size);exact⟨_,rfl,τ ⟨rfl,e,τ ⟨N,hF.below t,t⟩⟩,aA.of_below o⟩
 .have l:=d.size;refine⟨_,rfl,τ ⟨rfl,e,υ ⟨k,_,⟨R,x,T,X,U,rfl,A,B,V,λn L=>ς l (C n L), ?_⟩,D,aA.pre d q⟩⟩,q⟩;rcases g with g|⟨n,g,h8⟩
  .exact τ g
  .exact υ ⟨n,g,V⟩
def oL.aJ{w1 e:World}{m:Nat}{C:Nat->Option Thk.Ch}{M:Nat->Prop}(h:oL w w1 r m K C)(hF:cO w r)(a:aA M w1 e)(d:∀k,M k->w.heap.size<=k):oL w e r m K C:=by obtain⟨j,i,f,l,n,o,b⟩:=h;exact⟨j,i,f,l,n,o.aJ a (λk c m=>by have:=d k m;have:=hF.lt (k:=k) c;omega),⟨a.os.trans b.os,a.tape.trans b.tape,a.output.trans b.output,ς b.size a.size,λk c g=>(a.block k (ο c b.size) (λm=>by have:=d k m;omega)).trans (b.block k c g)⟩⟩
def qA.aJ{w1 h:World}{C:Nat->Option Thk.Ch}{M:Nat->Prop}(i:qA w w1 r fr K C)(hF:cO w r)(a:aA M w1 h)(f:∀k,M k->w.heap.size<=k)(j:∀d,D9 w w1 r fr K C d->∀k,d.own k->¬M k):qA w h r fr K C:=by
 rcases i with⟨e,b,g⟩|⟨e,d,b⟩
 .refine τ ⟨e,b.aJ a (λk c m=>by have:=f k m;have:=hF.lt c;omega),g.trans ⟨a.os,a.tape,a.output,a.size,λk c=>a.block k (ο c g.size) (λm=>by have:=f k m;omega)⟩⟩
 .refine υ ⟨e,d,b.eq,b.rep.aJ a (j d b), ?_⟩;exact⟨a.os.trans b.aJ.os,a.tape.trans b.aJ.tape,a.output.trans b.aJ.output,ς b.aJ.size a.size,λk c l=>(a.block k (ο c b.aJ.size) (λm=>by have:=f k m;omega)).trans (b.aJ.block k c l)⟩
def cO.mQ(h:cO w r){cs:Array Value}{t:TypeId}(c:aC w b cs t)(d:t≠129)(f:t≠184)(g:t≠225)(i:t≠187):¬r.own b:=λa=>by
 rcases a with rfl|a|a|rfl
 .exact jU h.blk c (λe=>d e.symm) rfl
 .exact h.st.r.gV a c
 .rcases a with rfl|a|rfl|⟨p,m,a⟩
  .exact jU h.kept.blk c (λe=>f e.symm) rfl
  .exact row_ne c h.kept.row g a
  .obtain⟨N,l⟩:=h.kept.ack;exact l.l7 c
  .exact(h.kept.st p m).gV a c
 .obtain⟨q,o,j,_⟩:=h.xH;obtain⟨n,k⟩:=j.blk;exact jU k c (λe=>i e.symm) rfl
def Ri{W:World}{u0 u1 u2 u3 u4 u5 a c d e f g:Value}{t:TypeId}(h:aC W b #[a,c,d,e,f,g] t):aC ((((((W.setCell (z b) u0).setCell (O b 1) u1).setCell (O b 2) u2).setCell (O b 3) u3).setCell (O b 4) u4).setCell (O b 5) u5) b #[u0,u1,u2,u3,u4,u5] t /\ aA (λk=>k=b) W ((((((W.setCell (z b) u0).setCell (O b 1) u1).setCell (O b 2) u2).setCell (O b 3) u3).setCell (O b 4) u4).setCell (O b 5) u5):=by refine⟨?_,((((((aA.refl (λk=>k=b) W).setCell (p:=(z b)) rfl _).setCell (p:=(O b 1)) rfl _).setCell (p:=(O b 2)) rfl _).setCell (p:=(O b 3)) rfl _).setCell (p:=(O b 4)) rfl _).setCell (p:=(O b 5)) rfl _⟩;unfold aC at h⊢;simp[World.setCell,μ,h]
def MO(w:World)(T:Glob w)(r:RD)(hF:cO w r)(hu:r.dd=none)(M:r.cut=false\/(r.cut=true/\∃m:Nat,r.k=(m:Int)))(fr m:Nat)(a5:fr<=5)(gi gc gl:Nat)(H:Nat->Prop)(E:Nat->Option Thk.Ch)(Y:aP w gi gc gl H (aU E))(c:Nat->Nat)(e:Nat->Option Thk.Ch)(U:wY ([⟨some gi,some gc,some gl,H,aU E⟩]++[r.known]) c e)(S:jT (fst c) e)(a3:∀x,c x<=500)(a1:(∃g,1<=nth g/\eY r c e g)->aF r.K+1<=aF c):Calls prog 94 #[.pointer (some (z r.rb)),.agg #[I fr,I m,.bool false,.map (some gi),.map (some gc),.map (some gl)]] w λh l=>∃(b:Bool)(p1 p2:Int),MN w l r fr c e b/\h=.returned (.tuple #[.agg #[I p1,I p2,.bool b,.map none,.map none,.map none],.bool b])/\(b=true->p1=(r.a:Int)/\p2=(m:Int)):=by
 have a9:=hF.blk.lt;obtain⟨W0,o⟩:∃W0,W0=(w.alloc (.cells #[I fr,I m,.bool false,.map (some gi),.map (some gc),.map (some gl)] 103)).alloc (.cells #[I 0,I 0,.bool false,.map none,.map none,.map none] 103):=⟨_,rfl⟩;have K:Below w.heap.size w W0:=by rw[o];exact((φ _ w).alloc (χ _) _).alloc Ω _
 have q:aC W0 w.heap.size #[I fr,I m,.bool false,.map (some gi),.map (some gc),.map (some gl)] 103:=by rw[o];exact(aC.new w _ _).alloc _
 have k1:aC W0 (w.heap.size+1) #[I 0,I 0,.bool false,.map none,.map none,.map none] 103:=by rw[o];have:=aC.new (w.alloc (.cells #[I fr,I m,.bool false,.map (some gi),.map (some gc),.map (some gl)] 103)) #[I 0,I 0,.bool false,.map none,.map none,.map none] 103;rwa [ϊ]at this
 have P:W0.heap.size=w.heap.size+2:=by rw[o];simp
 have z0:=(q.cell 0).trans rfl;have z3:=(q.cell 3).trans rfl;have z4:=(q.cell 4).trans rfl;have z5:=(q.cell 5).trans rfl;have R:J<|∀wx,wx=W0.alloc (.cells #[.map (some gi),.map (some gc),.map (some gl)] 101)->Calls prog 83 #[.pointer (some (z r.rb)),I fr,.slice (some (z (w.heap.size+2))) 1 1] wx λh l=>∃b,h=.returned (.bool b)/\(MN w l r fr c e b/\aC l w.heap.size #[I fr,I m,.bool false,.map (some gi),.map (some gc),.map (some gl)] 103/\aC l (w.heap.size+1) #[I 0,I 0,.bool false,.map none,.map none,.map none] 103/\l.cell? (z r.rb)=some (I r.a)):=λwx C=>by
  have L:Below W0.heap.size W0 wx:=by rw[C];exact(φ _ W0).alloc (χ _) _
  have W:=K.trans (L.mono K.size);have D:aC wx (w.heap.size+2) #[.map (some gi),.map (some gc),.map (some gl)] 101:=by rw[C,<- P];exact aC.new W0 _ _
  have a7:jk wx (w.heap.size+2) 0 [⟨some gi,some gc,some gl,H,aU E⟩]:=by
   refine⟨D.lt, ?_, ?_, ?_, ?_⟩
   .intro y ac
    match y,ac with
    | 0,_=>rw[D.cell];(first|done|rfl)
   .intro y ac
    match y,ac with
    | 0,_=>rw[D.cell];(first|done|rfl)
   .intro y ac
    match y,ac with
    | 0,_=>rw[D.cell];(first|done|rfl)
   .intro s hs;rw[ϑe]at hs;subst hs;exact⟨(Y.below W).toR,λn x C=>lC C⟩
  refine ψ (XM T hF hu M a5 W a7 Ω U S a3 a1) ?_;rintro h l⟨b,rfl,A,aa⟩;have a0:∀k,w.heap.size<=k->¬r.own k:=λk B ho=>by have:=hF.lt ho;omega
  refine⟨b,rfl,A,(q.below L).aJ aa (a0 _ (χ _)),(k1.below L).aJ aa (a0 _ V), ?_⟩;rcases A with⟨_,_,⟨_,a,_⟩|⟨_,r',a⟩⟩|⟨_,_,u,a⟩
  .exact(a.blk.cell 0).trans rfl
  .obtain⟨io,co,lo,st,pv,he,_⟩:=a.eq;have:=a.rep.blk;rw[he]at this;exact(this.cell 0).trans rfl
  .obtain⟨m,N⟩:∃m:Nat,r.k=(m:Int):=M.elim (λi=>by rw[i]at u;cases u) And.right;obtain⟨_,_,_,_,_,h4,_⟩:=a m N;exact(h4.blk.cell 0).trans rfl
 have a2:=ω o;have Q:=ω hF;have a8:=ω P;clear hF Y U S a1 q k1 K o T P;go_enter func94,ntmps94;go_wp2_with fail;have F:=R.o;rw[a2.o]at F;refine ψ (F _ rfl) ?_;rintro h d⟨b,rfl,a⟩;clear F R M;have f:J<|MN w d r fr c e b/\aC d (w.heap.size+1) #[I 0,I 0,.bool false,.map none,.map none,.map none] 103:=⟨a.1,a.2.2.1⟩;have y1:d.cell? (O w.heap.size 1)=some (I m):=(a.2.1.cell 1).trans rfl;have x0:=a.2.2.2;have e0:=(a.2.2.1.cell 0).trans rfl;have e1:=(a.2.2.1.cell 1).trans rfl;have e2:=(a.2.2.1.cell 2).trans rfl;have e3:=(a.2.2.1.cell 3).trans rfl;have e4:=(a.2.2.1.cell 4).trans rfl;have e5:=(a.2.2.1.cell 5).trans rfl;have ef:=a.2.2.1.frozen;clear a z0 z3 z4 z5;cases b with
 | false =>
 rcases f.o.1 with⟨i,_⟩|⟨_,Z,u,ht⟩
 .cases i
 have G:J<|(∃g,1<=nth g/\eY r c e g)/\r.cut=true/\∀m:Nat,r.k=(m:Int)->oL w d r m c e:=⟨Z,u,ht⟩;clear Z u ht;go_wp2_with fail;have j:=Ri (u0:=I 0) (u1:=I 0) (u2:=.bool false) (u3:=.map none) (u4:=.map none) (u5:=.map none) f.o.2;have d0:=(j.1.cell 0).trans rfl;have d1:=(j.1.cell 1).trans rfl;have d2:=(j.1.cell 2).trans rfl;have d3:=(j.1.cell 3).trans rfl;have d4:=(j.1.cell 4).trans rfl;have d5:=(j.1.cell 5).trans rfl;exact ϐ (v:=.tuple #[.agg #[I 0,I 0,.bool false,.map none,.map none,.map none],.bool false]) (by simp[results,Tryz.results94,go_sem,d0,d1,d2,d3,d4,d5]) rfl ⟨false,0,0,υ ⟨rfl,G.o.1,G.o.2.1,λm N=>(G.o.2.2 m N).aJ Q.o j.2 (λk B=>V)⟩,rfl,λi=>(by cases i)⟩
 | true =>
 have f:J<|qA w d r fr c e/\((∀g,1<=nth g->¬eY r c e g)\/r.cut=false)/\aC d (w.heap.size+1) #[I 0,I 0,.bool false,.map none,.map none,.map none] 103:=by
  rcases f.o.1 with⟨_,A,aa⟩|⟨i,_⟩
  .exact⟨aa,A,f.o.2⟩
  .cases i
 go_wp2_with fail
 go_region
 all_goals
  go_wp2_with fail;have ab:aC ((((((d.setCell (z (w.heap.size+1)) (I r.a)).setCell (O (w.heap.size+1) 1) (I m)).setCell (O (w.heap.size+1) 2) (.bool true)).setCell (O (w.heap.size+1) 3) (.map none)).setCell (O (w.heap.size+1) 4) (.map none)).setCell (O (w.heap.size+1) 5) (.map none)) (w.heap.size+1) #[I r.a,I m,.bool true,.map none,.map none,.map none] 103:=by have:=f.o.2.2;unfold aC at this⊢;simp[World.setCell,μ,this]
  have X:aA (λk=>k=w.heap.size+1) d ((((((d.setCell (z (w.heap.size+1)) (I r.a)).setCell (O (w.heap.size+1) 1) (I m)).setCell (O (w.heap.size+1) 2) (.bool true)).setCell (O (w.heap.size+1) 3) (.map none)).setCell (O (w.heap.size+1) 4) (.map none)).setCell (O (w.heap.size+1) 5) (.map none)):=((((((aA.refl (λk=>k=w.heap.size+1) d).setCell (p:=(z (w.heap.size+1))) rfl _).setCell (p:=(O (w.heap.size+1) 1)) rfl _).setCell (p:=(O (w.heap.size+1) 2)) rfl _).setCell (p:=(O (w.heap.size+1) 3)) rfl _).setCell (p:=(O (w.heap.size+1) 4)) rfl _).setCell (p:=(O (w.heap.size+1) 5)) rfl _;have a6:=f.o.1.aJ Q.o (X.trans (aA.of_below (φ _ _).drew)) (λk B=>V) (λr' aa k B h=>aa.rep.mQ f.o.2.2 Ψ Ψ Ψ Ψ (h▸B));have a4:=f.o.2.1;clear e0 e1 e2 e3 e4 e5 ef y1 x0 f X;generalize ((((((d.setCell (z (w.heap.size+1)) (I r.a)).setCell (O (w.heap.size+1) 1) (I m)).setCell (O (w.heap.size+1) 2) (.bool true)).setCell (O (w.heap.size+1) 3) (.map none)).setCell (O (w.heap.size+1) 4) (.map none)).setCell (O (w.heap.size+1) 5) (.map none))=t at *;have d0:t.drew.cell? (z (w.heap.size+1))=some (I r.a):=(ab.cell 0).trans rfl;have d1:t.drew.cell? (O (w.heap.size+1) 1)=some (I m):=(ab.cell 1).trans rfl;have d2:t.drew.cell? (O (w.heap.size+1) 2)=some (.bool true):=(ab.cell 2).trans rfl;have d3:t.drew.cell? (O (w.heap.size+1) 3)=some (.map none):=(ab.cell 3).trans rfl;have d4:t.drew.cell? (O (w.heap.size+1) 4)=some (.map none):=(ab.cell 4).trans rfl;have d5:t.drew.cell? (O (w.heap.size+1) 5)=some (.map none):=(ab.cell 5).trans rfl;exact ϐ (v:=.tuple #[.agg #[I r.a,I m,.bool true,.map none,.map none,.map none],.bool true]) (by simp[results,Tryz.results94,go_sem,d0,d1,d2,d3,d4,d5]) rfl ⟨true,_,_,τ ⟨rfl,a4,a6⟩,rfl,λ_=>⟨rfl,rfl⟩⟩
