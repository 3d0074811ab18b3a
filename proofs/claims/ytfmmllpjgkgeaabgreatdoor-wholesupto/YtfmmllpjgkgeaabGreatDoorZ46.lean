import Derived.Test.YtfmmllpjgkgeaabGreatDoorZ45
set_option linter.all false
set_option maxHeartbeats 0
set_option maxRecDepth 100000
namespace Go.Proofs.YtfmmllpjgkgeaabGreatDoor
open Go.RowKit Go.Maps Go.WideMaps
def Kn.kle{d:List Ev}{D:List Nat}{k1 k2:List Bool}{a c:Nat->Nat}{h k:Nat->Option Thk.Ch}(e:Kn d D k1 a h)(n:Kn d D k2 c k)(q:∀i,k1.getD i false=true->k2.getD i false=true)(j:Nat):a j<=c j:=by
 by_cases r:a j=0
 .omega
 .obtain⟨b,l⟩:=e.all j (a j) V (χ _);obtain⟨i,p,m⟩:=ϑd l;have g:D[i]?=some (dX j (a j)):=by rw[σ p,m]
  have o:=(e.vec i _ g).2 (by rw[dI b,dG b];exact χ _);have f:=(n.vec i _ g).1 (q i o);rw[dI b,dG b]at f;exact f
def RI{rs:Nat->LR}{k:Nat}{b:Bool}:jW (aX rs k ((rs k).wake b))=aX (jW rs) k 0:=by
 funext j;unfold jW;by_cases e:j=k
 .subst e;rw[aN,aN];(first|done|rfl)
 .rw[aS _ _ e,aS _ _ e]
def Yz(w:World)(x:Nat)(S:Nat->Prop)(s:Sl)(i:Int)(hG:Glob w)(hS4:∀k,S k->4<=k)(hp:iI w x S s):Calls Tryz.prog 58 #[.pointer (some (z x)),I i] w λe w'=>e=.returned (I (xR s i))/\∃S' s',vP s i s'/\iI w' x S' s'/\(∀k,S' k->S k\/w.heap.size<=k)/\aA S w w':=by
 obtain⟨G,E,q,a,p,D,P,H,ov,h,az,ax⟩:=hp;have hu:=(wE h ax).1;have af:=h.len;refine ψ (U3 w hG x G E q a p h.kK (λk b=>hS4 _ ((h.own _).2 (υ (υ (υ ⟨k,b,τ rfl⟩))))) i) ?_;rintro e w'⟨r,W,rfl,hD,N,hc⟩;have R:=h.sc hc;unfold xR vP;rw[hu];rcases hD with⟨hi,rfl,rfl⟩|⟨k,b,rfl,ap,rfl,rfl⟩|⟨k,b,dd,aw,f,l,rfl,a4,rfl,ad,rfl⟩
 .have L:aK W i=2:=by unfold aK;exact ύ hi
  rw[L];exact⟨rfl,S,s,rfl,⟨G,E,q,_,p,D,P,H,ov,h.keep N,az,ax⟩,λk b=>τ b,R⟩
 .have L:aK W (k:Int)=0:=by unfold aK;rw[ώ V,qB W k b,ap];(first|done|rfl)
  rw[L];exact⟨rfl,S,s,rfl,⟨G,E,q,_,p,D,P,H,ov,h.keep N,az,ax⟩,λk b=>τ b,R⟩
 .have L:aK a (k:Int)=3:=by unfold aK;rw[ώ V,qB a k b,a4];(first|done|rfl)
  rw[L];refine⟨rfl, ?_⟩;obtain⟨d,t⟩:∃d,(s.rs k).dn=some d:=by have:=(ax k b).up;rw[a4]at this;exact Option.isSome_iff_exists.1 this
  obtain⟨c,B⟩:=(ax k b).dn d t;obtain⟨av,ar,l1,l2,a6,ao⟩:=B.tn;rw[a4]at a6;cases a6
  have a0:=jO s.1 a k b;have ai:=(h.hist k b).ok _ (h.hist k b).now;have an:aF (fM s.1 a k).K=cnt (fM s.1 a k).kn:=by rw[a0];exact(h.size k b).symm
  have a7:jW s.rs k=if d.own then 1 else 0:=by unfold jW;rw[t]
  have vI:jo w.heap.size a[k] (a[k].woken aw f l dd):=AQ ad;rcases ao with⟨ht,rfl⟩|⟨ht,rfl⟩
  .obtain⟨o,hF,ag,ae⟩:∃o,cZ w x S s.1 s.acc (aX (jW s.rs) k 0) G E q a p o P/\(∀y:Hs,y.Ok s.es D->y.K k<=a[k].K k->y.Ok s.es o)/\∀(C d:Nat),D[C]?=some d->who d≠k->o[C]?=some d:=by
    cases v:d.own with
    | false =>
     refine⟨D, ?_,λy m _=>m,λC d n _=>n⟩;have F:aX (jW s.rs) k 0=jW s.rs:=funext λj=>by
      by_cases e:j=k
      .rw[e,aN,a7,v];(first|done|rfl)
      .rw[aS _ _ e]
     rw[F];exact h
    | true =>obtain⟨C,n⟩:=B.ev v;have h6:=h.kK.len;have aa:=h.k5 k b;have h5:=((h.oD.ok _ (ϑC n)).2 (by rw[dI V];omega)).2;rw[dG V]at h5;obtain⟨o,a1,a2,a3⟩:=h.av3 b n h5;exact⟨o,a1,a2,λC d n K=>a3 C d n (λe=>K (by rw[e,dI V]))⟩
   have aj:=(hF.hist k b).ok _ (hF.hist k b).now;have Q:=(hF.hist k b).lost aj (Hs.le.refl _) (υ rfl) an (r':=a[k].woken aw f l ⟨a[k].K,a[k].C,a[k].n⟩) (hF.hist k b).cK.symm (hF.hist k b).cC.symm (by rw[(hF.hist k b).cK];rfl) rfl rfl;have ac:(λy=>P k y\/y=fM s.1 a k)=P k:=funext λy=>propext ⟨λm=>m.elim id (λe=>e▸(h.hist k b).now),τ⟩;rw[ac]at Q;have ab:=hF.same b (r':=a[k].woken aw f l ⟨a[k].K,a[k].C,a[k].n⟩) rfl rfl Q N;obtain⟨H1,hR,Z⟩:=(az.rep k b).lost (r':=a[k].woken aw f l ⟨a[k].K,a[k].C,a[k].n⟩) (L':=(s.rs k).wake false) rfl rfl rfl rfl rfl (τ ⟨rfl,rfl⟩);have Y:=az.turn (es':=s.es) (Eu:=s.kn) (A:=s.acc) b hR rfl Z (Nat.le_succ _) (λe=>absurd e (Nat.succ_ne_self _)) (λe=>absurd e (Nat.succ_ne_self _)) (λ_ _ _=>rfl);refine⟨_,⟨s.1,s.room,aX s.rs k ((s.rs k).wake false),s.ls,s.acc⟩,(ώ rfl).mpr (λd' T=>⟨false,λ_=>rfl,λh9=>?_,rfl⟩),⟨G,E,q,_,p,o,P,_,_, ?_,Y, ?_⟩,h.zU b vI (λg hg=>τ hg),R⟩
   .have hd2:(s.rs k).dn=some d':=T;rw[t]at hd2;cases hd2
    omega
   .show cZ w' x _ s.1 s.acc (jW (aX s.rs k _)) G E q _ p o P;rw[RI];exact ab
   .have ec:=mX s.1 a b (r':=a[k].woken aw f l ⟨a[k].K,a[k].C,a[k].n⟩) rfl rfl;show ∀j(h:j<(a.set k (a[k].woken aw f l ⟨a[k].K,a[k].C,a[k].n⟩)).length),Qs s.es o _ j (fM s.1 (a.set k (a[k].woken aw f l ⟨a[k].K,a[k].C,a[k].n⟩)) j) (aX s.rs k _ j) _;rw[ec];exact uw ax b h.k5 (λj y u m v=>ag y v (m k b (Ne.symm u))) (λj C d u n K=>ae C d n (by rw[K];exact u)) (χ _) (λ_ _=>rfl) ⟨rfl,(ax k b).arm,λd t=>(by cases t)⟩
  .have hB:=Kn.UW B.ok h.oD h.kK.len h.r505 h.src;have aa:=λaq=>Kn.nI B.ok h.oD aq;have al:=Kn.size B.ok h.oD h.kK.len aa;have a5:cnt (fM s.1 a k).kn<cnt c.kn:=by rw[B.kn];exact B.lt
   have Q:=(h.hist k b).lost B.ok B.le (τ a5) al.symm (r':=a[k].woken aw f l ⟨c.K,c.C,a[k].n+1⟩) rfl rfl rfl rfl rfl;have a8:∀j,a[k].K j<=c.K j:=λj=>by have:=Kn.kle ai B.ok B.le j;rw[a0]at this;exact this
   have U:=B.own;have hF:=h.learnt b (UY:=c.kn) (r':=a[k].woken aw f l ⟨c.K,c.C,a[k].n+1⟩) (eX:=q) (bs':=p) (fs':=s.fs) (A':=if d.own then s.acc+1 else s.acc) (pd':=aX (jW s.rs) k 0) h.oD (λy m=>m) B.le Q (λy m=>τ m) (λy m=>m) (λj u=>⟨a8 j,λah=>B.dom j u (Ne.symm ah)⟩) (λj u X a9 K=>?_) (λj=>?_) ?_ h.r505 h.src h.o9 (λ_ _ h=>h) (λj M h2=>τ ⟨M,h2,rfl,rfl⟩) N
   .have ak:aF a[k].K<aF c.K:=by have e3:=h.size k b;rw[a0]at a5;have:cnt (s.kn.getD k [])<cnt c.kn:=a5;omega
    obtain⟨H1,hR,Z⟩:=(az.rep k b).lost (r':=a[k].woken aw f l ⟨c.K,c.C,a[k].n+1⟩) (L':=(s.rs k).wake true) rfl rfl rfl rfl rfl (υ ⟨rfl,ak⟩);have Y:=az.turn (es':=s.es) (Eu:=s.kn.set k c.kn) (A:=if d.own then s.acc+1 else s.acc) b hR rfl Z (Nat.le_succ _) (λe=>absurd e (Nat.succ_ne_self _)) (λe=>absurd e (Nat.succ_ne_self _)) (λ_ _ _=>rfl);refine⟨_,⟨⟨s.es,s.kn.set k c.kn,s.fs⟩,s.room,aX s.rs k ((s.rs k).wake true),s.ls,if d.own then s.acc+1 else s.acc⟩,(ώ rfl).mpr (λd' T=>⟨true,λh9=>?_,λ_=>rfl, ?_⟩),⟨G,E,q,_,p,D,(λj y=>if k=j then(P k y\/y=c)else P j y),_,_, ?_,Y, ?_⟩,h.zU b vI (λg hg=>τ hg),R⟩
    .have hd2:(s.rs k).dn=some d':=T;rw[t]at hd2;cases hd2
     omega
    .have hd2:(s.rs k).dn=some d':=T;rw[t]at hd2;cases hd2
     rw[B.kn];(first|done|rfl)
    .show cZ w' x _ _ _ (jW (aX s.rs k _)) G E q _ p D _;rw[RI];exact hF
    .refine uw (cu:=fM s.1 a) (D:=D) ax b h.k5 (λj y _ _ v=>v) (λj C d _ n _=>n) (a8 k) (λj u=>?_) ⟨rfl,(ax k b).arm,λd t=>(by cases t)⟩;rw[yU s.1 a b af,ύ (Ne.symm u)]
   .by_cases F:k=j
    .subst F;have:=h.mine k b X a9 K;rw[a7]at this;rw[ώ rfl,aN];show nth X<=c.K k+0;omega
    .rw[ύ F,aS _ _ (Ne.symm F)];exact h.mine j u X a9 K
   .by_cases F:j=k
    .rw[F,aN];exact Nat.zero_le _
    .rw[aS _ _ F];exact h.Vs j
   .have M:=uj a k b (a[k].woken aw f l ⟨c.K,c.C,a[k].n+1⟩) a.length;rw[ώ b,ώ b]at M;have h2:=h.sum;have h3:(a[k].woken aw f l ⟨c.K,c.C,a[k].n+1⟩).K k=c.K k:=rfl;rw[h3]at M;cases v:d.own with
    | true=>rw[v]at U;simp only[if_true]at U⊢;omega
    | false=>rw[v]at U;simp at U⊢;omega
def NG:kF iI:={
 bad:=by intro w r K _ h;refine ψ (Z5 r K w h) ?_;rintro u y⟨rfl,rfl⟩;exact⟨rfl,φ _ _⟩
 good:=aa8
 does:=λw x S s i t r L l F p o=>aa9 w x S s i t r L l F p o
 asks:=by rintro w x S s i t l⟨q,f,g,b,e,D,P,H,j,h,c,d⟩ p;refine ψ (h.asks (wE h d).1 l i t p) ?_;rintro u y⟨M,rfl,G,m,n⟩;exact⟨M,rfl,G,S,⟨q,f,g,b,e,D,P,H,j,h.keep m,c,d⟩,λk a=>τ a,h.sx n⟩
 knows:=by rintro w x S s i l⟨q,f,g,b,e,D,P,H,j,h,c,d⟩;refine ψ (h.knows (wE h d).1 i) ?_;rintro u y⟨rfl,m,n⟩;exact⟨rfl,S,⟨q,f,g,b,e,D,P,H,j,h.keep m,c,d⟩,λk a=>τ a,h.sx n⟩
 sends:=Yw
 frame:=Yx
 Ko:=ab1
 Cc:=U6
 waits:=Yy
 ticks:=Yu
 crashes:=Qu
 tears:=Yv
 wakes:=Yz
 dlt:=by
  rintro w x S s i A⟨q,f,g,b,e,D,P,H,j,h,c,d⟩ E o;have a:i<b.length:=by rw[<- h.len];exact E
  obtain⟨T,B⟩:=(d i a).dn A o;have:=B.lt;rw[jO s.1 b i a]at this;exact this
 fsz:=by
  rintro w x S s N Q⟨q,f,g,b,e,D,P,H,j,h,c,_⟩ C;obtain⟨k,a,rfl,rfl⟩:=JB C;have R:=(h.Qm k (by rw[h.o9];exact a) a).seal.2.2.1;have v:k<s.ls.length:=by rw[c.ln];exact a
  refine⟨V,s.ls[k],by rw[show((k:Int)+1).toNat-1=k by omega];exact σ v,(c.fr k _ _ (σ a) (σ v)).1⟩
 al6:=by rintro w x S s⟨q,f,g,b,e,D,P,H,j,h,c,_⟩;have:=h.kK.FK;have:=h.o9;omega }
