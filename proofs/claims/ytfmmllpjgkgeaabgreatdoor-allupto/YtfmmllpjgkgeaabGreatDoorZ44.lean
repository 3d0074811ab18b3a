import Derived.Test.YtfmmllpjgkgeaabGreatDoorZ41
import Derived.Test.YtfmmllpjgkgeaabGreatDoorZ43
set_option linter.all false
set_option maxHeartbeats 0
set_option maxRecDepth 100000
namespace Go.Proofs.YtfmmllpjgkgeaabGreatDoor
section
open Go.RowKit Go.Maps Go.WideMaps
def Kn.av4{c:List Ev}{D:List Nat}{n:Nat}{known:List Bool}{K:Nat->Nat}{C:Nat->Option Thk.Ch}(h:Kn c D known K C)(b:uX c D n)(g:kH D<=505):cnt known<=505:=by
 rw[<- kU known c.length h.len];have:=h.real b (xk b (List.Pairwise.filter (λk=>known.getD k false) List.nodup_range) (λi a=>by rw[ϑf,ϑp]at a;rw[b.len];exact a.1)) (λf e=>by
  obtain⟨i,a,rfl⟩:=ι.1 e;rw[ϑf,ϑp]at a;have d:i<D.length:=by rw[b.len];exact a.1
  exact⟨ϑC (xg d),(h.vec i _ (xg d)).1 a.2⟩)
 rw[ϑh]at this;omega
section
variable{w:World}{x:Nat}{S:Nat->Prop}{s:Sl}{A:Nat}{pd:Nat->Nat}{q cap:Nat}{fv:Value}{ds:List bI}{bs:List (Nat×ByteArray)}{D:List Nat}{P:Nat->Hs->Prop}
def cZ.bsz(h:cZ w x S s.1 A pd q cap fv ds bs D P):∀p∈bs,p.2.size<=1000000000:=by intro p b;obtain⟨j,a,rfl⟩:=ϑd b;obtain⟨_,f2,_,_,_,f6,_⟩:=h.Qm j a (by rw[<- h.o9];exact a);rw[f2];omega
def cZ.asks(h:cZ w x S s.1 A pd q cap fv ds bs D P)(c:∀i,iQ s i=aK ds i)(n:Glob w)(i:Int)(t:ByteArray)(v:t.size<=1048576):Calls Tryz.prog 12 #[.pointer (some (z x)),I i,.string t] w λe w'=>∃u,e=.returned (.tuple #[.string u,I (pR s i (ay t)).2])/\ay u=(pR s i (ay t)).1/\aV w' x q cap fv 0 ds bs/\aA (λk=>k=x) w w':=by
 have f:∀e∈s.es,Np e:=λe p=>by obtain⟨u,c⟩:=h.src e p;exact ak4 c
 refine ψ (XT w n x q cap fv ds bs h.kK (λB r=>(h.tie B r).aD1 h.oD h.r505 f) i t v) ?_;rintro e w'⟨u,C,rfl,l,m,o⟩;have j:=h.len;have d:(pR s i (ay t)).2=C/\ay u=(pR s i (ay t)).1:=by
  unfold pR;rw[c];rcases l with⟨a,rfl,rfl⟩|⟨a,b,rfl,rfl⟩|⟨a,k,g,rfl,b,rfl,E,y,rfl⟩
  .rw[ύ a];exact⟨rfl,rfl⟩
  .obtain⟨k,rfl,g,_⟩:=gK a;rw[ώ a];unfold EZ;rw[ώ (by rw[j];omega),b];exact⟨rfl,rfl⟩
  .rw[ώ a];unfold EZ;rw[ώ (by rw[j];omega),b];exact⟨rfl,aa0 (ay t) f ((h.tie k g).perm h.oD y)⟩
 exact⟨u,by rw[d.1],d.2,m,o⟩
def cZ.knows(h:cZ w x S s.1 A pd q cap fv ds bs D P)(g:∀i,iQ s i=aK ds i)(i:Int):Calls Tryz.prog 13 #[.pointer (some (z x)),I i] w λe w'=>e=.returned (.tuple #[I (iq s i).1,I (iq s i).2])/\aV w' x q cap fv 0 ds bs/\aA (λk=>k=x) w w':=by
 refine ψ (Qe w x q cap fv ds bs h.kK i) ?_;rintro e w'⟨rfl,d,f⟩;have c:uf ds i=iq s i:=by
  unfold uf iq;rw[g];by_cases a:aK ds i=0
  .rw[ώ a,ώ a];obtain⟨k,rfl,b,_⟩:=gK a;have e:(k:Int).toNat=k:=rfl;rw[e,show cnt (s.kn.getD k [])=aF ds[k].K from h.size k b,σ b];rfl
  .rw[ύ a,ύ a]
 exact⟨by rw[c],d,f⟩
def Jz(s:Sl)(f:Int)(D:List Nat)(s1:St)(ds ds':List bI):Prop :=
 match iF s.1 f with
 | none=>s1=s.1/\ds'=ds
 | some g=>if(s.rs g.dst).dn.isSome then s1=s.1/\ds'=ds else if 0<g.ack then s1=s.1/\∃g0,s.fs[g.ack-1]?=some g0/\g0.src=g.dst/\g0.dst=g.src/\g0.ack=0/\∃h:g.dst<ds.length,ds'=ds.set g.dst (ds[g.dst].ack g.src (cnt g0.known))else if 500<=s.fs.length then s1=s.1/\ds'=ds else
  ∃h:g.dst<ds.length,(¬cnt (s.kn.getD g.dst [])<cnt (bH (s.kn.getD g.dst []) g.known)/\ds'=ds/\∃b,s1=⟨s.es,s.kn,s.fs++[⟨g.dst,g.src,f.toNat,[],b⟩]⟩) \/
   (cnt (s.kn.getD g.dst [])<cnt (bH (s.kn.getD g.dst []) g.known)/\ds[g.dst].cut=false/\(∃io co lo pv st K' C',ds'=ds.set g.dst (ds[g.dst].more io co lo pv g.src st K' C')/\aF K'=cnt (bH (s.kn.getD g.dst []) g.known)/\∀z,ds[g.dst].K z<=K' z)/\∃b,s1=⟨s.es,s.kn.set g.dst (bH (s.kn.getD g.dst []) g.known),s.fs++[⟨g.dst,g.src,f.toNat,[],b⟩]⟩) \/
   (cnt (s.kn.getD g.dst [])<cnt (bH (s.kn.getD g.dst []) g.known)/\ds[g.dst].cut=true/\s1=s.1/\∃K' C' r',Hs.Ok s.es D ⟨bH (s.kn.getD g.dst []) g.known,K',C'⟩/\(∀j,ds[g.dst].K j<=K' j)/\(∀j(hj:j<ds.length),K' j<=ds[j].K j)/\Ee ds[g.dst] K' C' r'/\ds'=ds.set g.dst r')
def cZ.Ko(h:cZ w x S s.1 A pd q cap fv ds bs D P)(hu:∀l(N:l<ds.length),(s.rs l).dn.isSome=ds[l].dd.isSome)(af:∀l(N:l<ds.length),(s.rs l).arm.isSome=ds[l].cut)(hG:Glob w)(f:Int):Calls Tryz.prog 15 #[.pointer (some (z x)),I f] w λe w'=>e=.returned (.tuple #[I (delS s f).1,I (delS s f).2])/\∃ao K F E C G,cZ w' x ao K A pd q cap F E C D G/\Jz s f D K ds E/\(∀k,ao k->S k\/w.heap.size<=k)/\aA S w w':=by
 have a7:=h.o9;by_cases hf:1<=f/\f<=bs.length
 .obtain⟨i,rfl⟩:∃i:Nat,f=(i:Int)+1:=⟨(f-1).toNat,V⟩;have W:i<bs.length:=V
  have a5:i<s.fs.length:=V
  have j:iF s.1 ((i:Int)+1)=some s.fs[i]:=by unfold iF;rw[ώ V,show((i:Int)+1).toNat-1=i by omega,σ a5]
  obtain⟨f1,f2,f3,f4,f5,f6,f7,f8⟩:=h.Qm i W a5;have a0:=λ{l}N{L}hy=>((h.hist l N).ok L hy).av4 h.oD h.r505;have a8:=hu _ f3;cases hd:ds[s.fs[i].dst].dd with
  | some d =>
   have o:(s.rs s.fs[i].dst).dn.isSome=true:=by rw[a8,hd];(first|done|rfl)
   have u:delS s ((i:Int)+1)=(0,3):=by unfold delS;rw[j];exact ώ o
   refine ψ (BF w x q cap fv ds bs h.kK i W (λk=>k=x) rfl (λn r c=>n=0/\r=3/\aV c x q cap fv 0 ds bs/\aA (λk=>k=x) w c) (λc y m=>?_)) ?_
   .rw[f1];refine ψ (GK c x q cap fv ds bs y _ f3 (by rw[hd];rfl) _) ?_;rintro e w'⟨rfl,T⟩;exact⟨0,3,fv,ds,bs,rfl,y.below T,λa an=>⟨rfl,rfl,a,an⟩,m.below T⟩
   .rintro e w'⟨n,r,rfl,rfl,rfl,a,an⟩;exact⟨by rw[u],S,s.1,fv,ds,bs,P,h.keep a,by unfold Jz;rw[j];exact(ώ o).mpr ⟨rfl,rfl⟩,λk g=>τ g,h.sx an⟩
  | none =>
  have o:¬(s.rs s.fs[i].dst).dn.isSome=true:=by rw[a8,hd];simp
  by_cases p:0<s.fs[i].ack
  .have u:delS s ((i:Int)+1)=(0,0):=by unfold delS;rw[j];exact(ύ o).trans (ώ p)
   obtain⟨t,g0,t1,t2,t3,t4,t5,t6,t7,t8⟩:=f7 p;refine ψ (BF w x q cap fv ds bs h.kK i W S ((h.own x).2 (τ rfl)) (λn r c=>n=0/\r=0/\aV c x q cap fv 0 (ds.set s.fs[i].dst (ds[s.fs[i].dst].ack s.fs[i].src (cnt t.kn))) bs/\aA S w c) (λc y m=>?_)) ?_
   .rw[f1,f2];refine ψ (X3 c x q cap fv ds bs y _ f3 hd _ s.fs[i].src (cnt t.kn) f4 f5 (a0 f3 t1) t3) ?_;rintro e w'⟨rfl,a2,a4⟩;exact⟨0,0,fv,_,bs,rfl,a2,λa an=>⟨rfl,rfl,a,an⟩,(h.sx m).trans (a4.wide (λk g=>(h.own k).2 (υ (υ (υ ⟨_,f3,g⟩)))))⟩
   .rintro e w'⟨n,r,rfl,rfl,rfl,a,an⟩;have hF:=h.same f3 (r':=ds[s.fs[i].dst].ack s.fs[i].src (cnt t.kn)) rfl rfl ((h.hist _ f3).Gl _ t1 t2) a;exact⟨by rw[u],_,s.1,fv,_,bs,P,hF,by unfold Jz;rw[j];exact(ύ o).mpr ((ώ p).mpr ⟨rfl,g0,t4,t6,t7,t8,f3,by rw[t5]⟩),h.zU f3 (Ei _ _ _ _) (λH U=>τ U),an⟩
  .obtain⟨L,S2,C2,rs,ab,X,y2,y3,y4,y5⟩:=f8 p;have aa:=(h.hist _ f4).ok L X;have h6:=h.kK.len;by_cases h5:500<=bs.length
   .have u:delS s ((i:Int)+1)=(0,7):=by unfold delS;rw[j];exact((ύ o).trans (ύ p)).trans (ώ V)
    refine ψ (BF w x q cap fv ds bs h.kK i W (λk=>k=x) rfl (λn r c=>n=0/\r=7/\aV c x q cap fv 0 ds bs/\aA (λk=>k=x) w c) (λc y m=>?_)) ?_
    .rw[f1,f2];refine ψ (UN c (hG.Ed m (λk e=>by subst e;exact h.kK.x4)) x q cap fv ds bs y _ f3 hd _ s.fs[i].src (cnt L.kn) V (a0 f4 X) S2 C2 rs ab y3 y4 V h5) ?_;rintro e w'⟨rfl,T⟩;exact⟨0,7,fv,ds,bs,rfl,y.below T,λa an=>⟨rfl,rfl,a,an⟩,m.below T⟩
    .rintro e w'⟨n,r,rfl,rfl,rfl,a,an⟩;exact⟨by rw[u],S,s.1,fv,ds,bs,P,h.keep a,by unfold Jz;rw[j];exact(ύ o).mpr ((ύ p).mpr ((ώ V).mpr ⟨rfl,rfl⟩)),λk g=>τ g,h.sx an⟩
   .obtain⟨j1,j2,j3,j4,j5⟩:=h.joins f3 aa;refine ψ (BF w x q cap fv ds bs h.kK i W S ((h.own x).2 (τ rfl)) (λn r c=>(n,r)=delS s ((i:Int)+1)/\aA S w c/\∃ao K F E C G,cZ c x ao K A pd q cap F E C D G/\(∀H,ao H->S H\/w.heap.size<=H)/\Jz s ((i:Int)+1) D K ds E) (λc y m=>?_)) ?_
    .rw[f1,f2];refine ψ (Z8 c (hG.Ed m (λk e=>by subst e;exact h.kK.x4)) x q cap fv ds bs y s.fs[i].dst f3 hd _ s.fs[i].src (cnt L.kn) V (a0 f4 X) S2 C2 rs ab y3 y4 V V _ _ (λib cb lb=>FM y4 (h.tie _ f3) aa h.oD (by rw[jO s.1 ds _ f3]at y5;exact y5) (some ib) (some cb) (some lb) _ rfl rfl) j3 j2 (λM=>(j4 M).2)) ?_;rintro e w'⟨E,C,F,n,r,b,rfl,a9,a2,ad,a4,ai⟩;have ah:aA S w w':=(m.wide (λk e=>(h.own k).2 (τ e))).trans (a4.wide (λk g=>(h.own k).2 (by
      rcases g with g|g|g
      .exact τ g
      .exact υ (υ (τ g))
      .exact υ (υ (υ ⟨_,f3,g⟩)))))
     have hz:=m.size;refine⟨n,r,F,_,_,rfl,a2,λa an=>?_,ah⟩;have a6:=af _ f3;rcases ad with⟨rfl,Z,hR⟩|⟨rfl,aj,Z,r',hT,rfl⟩
     .obtain⟨rfl,rfl,b,ag,rfl⟩:n=((bs.length+1:Nat):Int)/\r=0/\∃s',ay s'=bM (kG s.fs[i].dst (cnt L.kn))/\C=bs++[(s.fs[i].src,s')]:=by
       rcases a9 with⟨_,a,an,R⟩|⟨h,_⟩
       .exact⟨a,an,R⟩
       .cases h
      obtain⟨ao,G,Eu,h7,h8,h9⟩:=h.came s.fs[i] i s.fs[i].dst (σ a5) V f3 rfl f4 f5 X y2 hz ag hR a (λH U=>(ai H U).imp id (λh9=>ς hz h9));have hcut:cnt (s.kn.getD s.fs[i].dst [])<cnt (bH (s.kn.getD s.fs[i].dst []) s.fs[i].known)->ds[s.fs[i].dst].cut=false:=λQ=>Z.elim (λac=>by have ak:=Nu (h.tie _ f3) j1 h.oD rfl ac;have:=(uK _ _ s.es.length ak j1.len (h.tie _ f3).len).1;rw[<- y2]at Q;exact absurd Q (by show ¬cnt (s.kn.getD _ [])<_;omega)) id;refine⟨?_,an,ao,_,_,_,_,G,h7,h8, ?_⟩
      .have u:delS s ((i:Int)+1)=((s.fs.length:Int)+1,0):=by unfold delS;rw[j];refine((ύ o).trans (ύ p)).trans ((ύ V).trans (ύ (λM=>?_)));rw[γ]at M;have:=hcut (by simpa[jQ]using M.1);rw[a6,this]at M;cases M.2
       rw[u,a7];(first|done|rfl)
      .unfold Jz;rw[j];refine(ύ o).mpr ((ύ p).mpr ((ύ V).mpr ⟨f3, ?_⟩));rcases h9 with⟨Y,rfl,a3⟩|⟨Y,rfl,a3⟩
       .exact τ ⟨Y,a3,b,rfl⟩
       .exact υ (τ ⟨Y,hcut Y,a3,b,rfl⟩)
     .obtain⟨rfl,rfl,rfl,rfl⟩:n=0/\r=8/\C=bs/\F=fv:=by
       rcases a9 with⟨h,_⟩|⟨_,a,an,R⟩
       .cases h
       .exact⟨a,an,R⟩
      have Q:=(j4 aj).1;rw[y2]at Q j1;have vI:=hT.nK (B:=w.heap.size);have ae:=hT;obtain⟨al,kP,d',_,_,rfl⟩:=hT;have v:=h.hist _ f3;refine⟨?_,an,_,s.1,_,_,_,P,h.same f3 (r':=ds[s.fs[i].dst].kV d') rfl rfl ⟨v.ok,v.nil,v.now,v.cK,v.cC,v.ord,v.top,v.dr,v.ack⟩ a,h.zU f3 vI (λH U=>τ U), ?_⟩
      .have u:delS s ((i:Int)+1)=(0,8):=by unfold delS;rw[j];refine((ύ o).trans (ύ p)).trans ((ύ V).trans (ώ ?_));rw[γ];exact⟨by simpa[jQ]using Q,by rw[a6];exact Z⟩
       rw[u]
      .unfold Jz;rw[j];refine(ύ o).mpr ((ύ p).mpr ((ύ V).mpr ⟨f3,υ (υ ⟨Q,Z,rfl,_,_,_,j1,λl=>Nat.le_max_left _ _,λl N=>?_,ae,rfl⟩)⟩));have g1:=h.dom l N _ _ f3 (h.hist _ f3).now;rw[jO s.1 ds _ f3]at g1;exact Nat.max_le.2 ⟨g1,h.dom l N _ L f4 X⟩
    .rintro e w'⟨n,r,rfl,h0,a,ao,K,F,E,C,G,an,R,h4⟩;exact⟨by rw[<- h0],ao,K,F,E,C,G,an,h4,R,a⟩
 .have j:iF s.1 f=none:=by unfold iF;rw[ύ (by show ¬(1<=f/\f<=(s.fs.length:Int));rw[<- a7];exact hf)]
  refine ψ (XZ w x q cap fv ds bs h.kK f hf) ?_;rintro e w'⟨rfl,hC,m⟩;exact⟨by unfold delS;rw[j],S,s.1,fv,ds,bs,P,h.keep hC,by unfold Jz;rw[j];exact⟨rfl,rfl⟩,λk g=>τ g,h.sx m⟩
