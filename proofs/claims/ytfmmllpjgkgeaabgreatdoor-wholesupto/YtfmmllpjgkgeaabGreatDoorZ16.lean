import Derived.Test.YtfmmllpjgkgeaabGreatDoorZ13
set_option linter.all false
set_option maxHeartbeats 0
set_option maxRecDepth 100000
namespace Go.Proofs.YtfmmllpjgkgeaabGreatDoor
open Go.Proofs.Tryz Go.RowKit
def Pg(w:World)(c rb:Nat)(d k:Value)(g:Nat->Value)(n:Nat)(h:List Ev)(f:Nat)(ld:Ld)(a:List (List Bool))(l:bD w c rb d k g n h f ld a)(i j:Int)(m:¬(oI ld a i=0/\oI ld a j=0)):Calls prog 47 #[.pointer (some (z c)),I i,I j] w λe s=>e=.returned (.tuple #[I 0,I (if oI ld a i=0 then oI ld a j else oI ld a i)])/\s=w:=by
 have o:J<|_:=iG w c rb d k g n h f ld a l i;have r:J<|_:=iG w c rb d k g n h f ld a l j;clear l;generalize oI ld a i=u at *;generalize oI ld a j=v at *;by_cases b:u=0
 .subst b;have p:=ϑv.2 (λp=>m ⟨rfl,p⟩);rw[ώ rfl];clear m;go_enter func47,ntmps47;go_wp2_with fail;refine ψ o.o ?_;rintro e q⟨rfl,rfl⟩;go_wp2_with fail;refine ψ r.o ?_;rintro e q⟨rfl,rfl⟩;go_wp2_with fail;go_ret2;exact⟨rfl,rfl⟩
 .have t:=ϑv.2 b;rw[ύ b];clear m b;go_enter func47,ntmps47;go_wp2_with fail;refine ψ o.o ?_;rintro e q⟨rfl,rfl⟩;go_wp2_with fail;go_ret2;exact⟨rfl,rfl⟩
def Lc(w:World)(c rb:Nat)(l f:Value)(n:Nat->Value)(q:Nat)(o:List Ev)(m:Nat)(ld:Ld)(b:List (List Bool))(h:bD w c rb l f n q o m ld b)(d:List lH){A:List LF}(s:iZ ld.I w f d A)(C:d.length<=500)(i j:Int)(u:oI ld b i=0)(v:oI ld b j=0)(p:i=j\/500<=d.length):Calls prog 47 #[.pointer (some (z c)),I i,I j] w λe B=>e=.returned (.tuple #[I 0,I (if i=j then 1 else 7)])/\B=w:=by
 have g:J<|_:=iG w c rb l f n q o m ld b h i;have k:J<|_:=iG w c rb l f n q o m ld b h j;rw[u]at g;rw[v]at k;obtain⟨y,x,t,G⟩:=s.shape;have f4:w.cell? (O c 4)=some (.slice y d.length x):=by rw[<- t];exact h.f4
 clear h s t u v;by_cases a:i=j
 .rw[ώ a];subst a;clear p;go_enter func47,ntmps47;go_wp2_with fail;refine ψ g.o ?_;rintro e r⟨rfl,rfl⟩;go_wp2_with fail;refine ψ k.o ?_;rintro e r⟨rfl,rfl⟩;go_wp2_with fail;go_ret2;exact⟨rfl,rfl⟩
 .rw[ύ a];have F:=ό.2 a;have D:=p.resolve_left a;have E:(500:Int)<=(d.length:Int):=V
  clear p a;go_enter func47,ntmps47;go_wp2_with fail;refine ψ g.o ?_;rintro e r⟨rfl,rfl⟩;go_wp2_with fail;refine ψ k.o ?_;rintro e r⟨rfl,rfl⟩;go_wp2_with fail;go_ret2;exact⟨rfl,rfl⟩
def TD(l:List Nat)(p:Nat->Bool)(a:Nat)(h:a<l.length):(l.take (a+1)).filter p=(l.take a).filter p++if p l[a]then [l[a]]else []:=by rw[ν h,ϑH,List.filter_cons];cases p l[a]<;>rfl
def Ph(f:Nat->Bool)(n:Nat):(List.range (n+1)).all f=((List.range n).all f&&f n):=by rw[List.range_succ,List.all_append];simp
def TF(l:List Nat)(m:Nat):ints (bW (l++[m]))=ints (bW l)++[I m]:=by simp[ints,bW]
def Pj(w:World)(c rb:Nat)(N T:Value)(x:Nat->Value)(Z:Nat)(S:List Ev)(P:Nat)(ld:Ld)(f:List (List Bool))(i:bD w c rb N T x Z S P ld f)(k:Nat)(A:k<f.length)(G:(ld.ls k).dn=none)(ab:Nat)(ag:x k=.slice (some (z ab)) f.length f.length)(aa:aI 3 w (x k) (ints (bW ((List.range f.length).map (ld.ls k).ak)))):Calls prog 53 #[.pointer (some (z c)),I k] w λo w'=>o=.returned (I 0)/\(∃s,(∀e,s e->ld.I e\/w.heap.size<=e)/\(∀e,ld.I e->s e)/\bD w' c rb N T x Z S P ⟨s,aX ld.ls k ((ld.ls k).tick f.length k)⟩ f)/\aA (· = rb) w w':=by
 obtain⟨bk,f1,bm⟩:=i.f1;have h6:=i.n6;have HU:J<|Calls prog 22 #[.pointer (some (z c)),I k] w λo w'=>o=.returned (I 0)/\w'=w:=by have:=iG w c rb N T x Z S P ld f i k;rw[Ce A G]at this;exact this
 obtain⟨⟨kv,a0,b0⟩,a1,a7,a9,⟨kp,a2,Q,_⟩,b7,_⟩:=i.kX k A;obtain⟨l9,bi,aw⟩:=i.wJ k;have a3:=i.a11 k A;obtain⟨i0,hi,be,bf,bg⟩:=info_parts Tryz.info3;obtain⟨ko,kc,aq,ap⟩:=Q.shape;rw[jX]at aq ap;subst aq;rw[ag]at a3 aa;obtain⟨p,hp⟩:∃p:Nat->Bool,p=λm=>!FZ f.length k (ld.ls k).ak m:=⟨_,rfl⟩;obtain⟨v,hq⟩:∃v:Nat->Nat->Bool,v=λm j=>j==k||decide (m<=(ld.ls k).ak j):=⟨_,rfl⟩;have b4:J<|∀m,p m = !(List.range f.length).all (v m):=λm=>by rw[hp,hq];(first|done|rfl)
 have E:J<|(ld.ls k).tick f.length k=⟨(ld.ls k).made,(ld.ls k).lost,(ld.ls k).kept.filter p,(ld.ls k).ak,(ld.ls k).arm,(ld.ls k).dn⟩:=ω<|by rw[hp];(first|done|rfl)
 obtain⟨b,W⟩:∃b,b=(ld.ls k).kept:=⟨_,rfl⟩;rw[<- W]at Q ap aw a2;have b2:J<|∀d,Below w.heap.size w d->∀j,j<f.length->d.cell? (O ab j)=some (I ((ld.ls k).ak j)):=λd bq j y=>by obtain⟨e,r,h,q,_,R⟩:=(aa.below bq).KT (a:=j) (by simpa using y);simp only[ϑa,ϑb,ϑz]at q;obtain⟨⟨rfl,rfl,-⟩,-,-⟩:=q;rw[Nat.zero_add]at R;rw[R];simp
 have ae:J<|∀d,Below w.heap.size w d->∀a(F:a<b.length),∃e r,ko=some (O e r)/\d.cell? (O e (r+a))=some (I (b[a])):=λd bq a F=>by obtain⟨e,r,h,q,_,R⟩:=(Q.below bq).KT F;simp only[ϑa]at q;exact⟨e,r,q.1,R⟩
 have a8:=i.jr.lt;have Hc:J<|∀d,Below w.heap.size w d->d.cell? (O rb (k*13+10))=some (.slice ko b.length kc)/\d.cell? (O rb (k*13+11))=some (.slice (some (z ab)) f.length f.length)/\∀j,d.frozen? (O rb j)=false:=λd bq=>⟨(bq.cell (p:=(O rb _)) a8).trans a2,(bq.cell (p:=(O rb _)) a8).trans a3,λj=>(bq.frozen (p:=(O rb j)) a8).trans (i.jr.frozen j)⟩;have az:J<|∀d l n h,Below w.heap.size w d->d.ownsRow w.heap.size 3 1 (.slice l n h) n (ints (bW (b.filter p)))->(∃s,(∀e,s e->ld.I e\/w.heap.size<=e)/\(∀e,ld.I e->s e)/\bD (d.setCell (O rb (k*13+10)) (.slice l n h)) c rb N T x Z S P ⟨s,aX ld.ls k ((ld.ls k).tick f.length k)⟩ f)/\aA (· = rb) w (d.setCell (O rb (k*13+10)) (.slice l n h)):=λd l n h bq X=>by
  have H:=i.below bq;have hc:aA (· = rb) d (d.setCell (O rb (k*13+10)) (.slice l n h)):=(aA.refl (· = rb) d).setCell (p:=(O rb (k*13+10))) rfl _;have Y:∀B,B≠k*13+10->(d.setCell (O rb (k*13+10)) (.slice l n h)).cell? (O rb B)=d.cell? (O rb B):=λB X=>aT (υ (λo=>X o.symm));obtain⟨⟨bh,b5,bb⟩,_,_,b8,⟨bp,b6,_⟩,b9,_⟩:=H.kX k A;have hs:=(fF X).vk hc H.jr Ψ;refine⟨⟨λe=>ld.I e\/∃r n' af,Value.slice l n h=.slice (some (O e r)) n' af, ?_,λe a5=>τ a5, ?_⟩,(aA.of_below bq).trans hc⟩
  .rintro e (a5|⟨r,n',af,o⟩)
   .exact τ a5
   .refine υ ?_;cases o
    rcases X.2 with⟨U,_⟩|⟨g',c',bl,U,h2,_⟩
    .cases U
    .cases U;exact h2
  .have:=H.turn k A bh f[k] bb (H.kn _ (κ A)) hc (H.jr.setCell _ _) (L:=(ld.ls k).tick f.length k) (by rw[E.o];exact⟨l9,bi,ς (List.length_filter_le _ _) (by rw[<- W];exact aw)⟩) G (by rw[E.o];exact⟨rfl,rfl⟩) ((Y _ V).trans b5) (by rw[E.o];exact(Y _ V).trans b8) (.slice l n h) (bV b6) (by rw[E.o,<- W];exact hs) (by rw[E.o];exact(Y _ V).trans b9) (λB U h2 h3 h4=>Y B h3);rw[ϑy]at this;exact this
 have b3:J<|∀a,a<=b.length->((b.take a).filter p).length<=50:=λa F=>ς (List.length_filter_le _ _) (by rw[List.length_take];omega);have HQ:J<|∀m j,v m j=(j==k||decide (m<=(ld.ls k).ak j)):=λm j=>by rw[hq]
 have Hz:J<|b.take b.length=b:=ϑm;clear aa b0 Q hp hq i a0 a1 a7 a9 a2 a3 b7 ag W;generalize (ld.ls k).ak=ak at *;go_enter func53,ntmps53;go_wp2_with fail;refine ψ HU.o ?_;rintro o w1⟨rfl,q⟩;rw[q];clear q w1 HU;go_wp2_with fail;clear f1;go_loopw [7,8,9,10] (λv7 v8 _ _ d=>∃a:Nat,a<=b.length/\v8=I a/\d.ownsRow w.heap.size 3 1 v7 ((b.take a).filter p).length (ints (bW ((b.take a).filter p)))/\Below w.heap.size w d) (λ_ v8 _ _ _=>b.length-(intOf v8).toNat);case atStart=>exact⟨0,V,rfl,ϑj _ _ _ _,φ _ _⟩
 case round =>
  obtain⟨a,F,rfl,a6,t⟩:=hrel;have HO:J<|_:=a6;have HB:=ω t;obtain⟨bj,ax,qf⟩:=Hc.o _ t;have bn:=b3.o a F;obtain⟨so,sc,ar,_⟩:=(fF a6).shape;rw[jX]at ar;clear a6 t;subst ar;by_cases a4:a<b.length
  .have ad:=ω<|TD b p a a4
   go_wp2_with fail;clear ax;go_loopw [9,10] (λv9 ac d=>∃(j:Nat)(C:Bool),j<=f.length/\ac=I j/\v9=.bool C/\J (C=(List.range j).all (v b[a]))/\Below wr.heap.size wr d) (λ_ ac _=>f.length-(intOf ac).toNat);case atStart=>exact⟨0,true,V,rfl,rfl,rfl,φ _ _⟩
   case round =>
    obtain⟨j,C,y,rfl,rfl,K,t⟩:=hrel;have M:J<|_:=t;have br:=HB.o.trans (t.mono HB.o.size);obtain⟨bj,ax,_⟩:=Hc.o _ br;clear t;by_cases bd:j<f.length
    .obtain⟨kb,ba,rfl,ck⟩:=ae.o _ br a a4;have ca:=b2.o _ br j bd;have IY:J<|(List.range (j+1)).all (v b[a])=((List.range j).all (v b[a])&&(j==k||decide (b[a]<=ak j))):=ω<|by rw[Ph,HQ.o]
     clear br;generalize b[a]=m at *;generalize ak j=aj at *;cases C
     .go_wp2_with fail
      go_quiet (fail)
      go_wp2;go_roundw;case rel=>exact⟨j+1,_,V,Λ,rfl,by show _=_;rw[IY.o,<- K.o];rfl,below_drewN M.o _⟩
      case measure=>simp[intOf];omega
     .by_cases an:j=k
      .subst an;have bq:((j:Int)==(j:Int))=true:=beq_self_eq_true _;go_wp2_with fail
       go_quiet (fail)
       go_wp2;go_roundw;case rel=>exact⟨j+1,_,V,Λ,rfl,by show _=_;rw[IY.o,<- K.o];simp,below_drewN M.o _⟩
       case measure=>simp[intOf];omega
      .have bq:((j:Int)==(k:Int))=false:=ό.2 V;go_wp2_with fail
       go_quiet (fail)
       go_wp2;go_roundw;case rel=>exact⟨j+1,_,V,Λ,rfl,by show _=_;rw[IY.o,<- K.o];simp[an],below_drewN M.o _⟩
       case measure=>simp[intOf];omega
    .have al:j=f.length:=V
     have HP:J<|p b[a] = !C:=ω<|by rw[b4.o,K.o,al]
     have SB:=ω<|own_below HO.o M.o
     have D:=ω br;obtain⟨kb,ba,rfl,ck⟩:=ae.o _ br a a4;generalize hm:b[a]=m at *;clear hm al br;have bo:=D.o.size;cases C
     .have m1:J<|((b.take a).filter p).length+1<=maxLen:=by unfold J maxLen;omega
      have m2:J<|(((b.take a).filter p).length+1)*8<=140737488355328:=ω V
      go_wp2_with (first|(at_builtin;refine wpList_append_own _ rfl (.tmp 66) (.tmp 74) 62 rfl w.heap.size 3 i0 (I 0) 1 8 underlying62 hi be bf bg rfl Ψ (.slice so ((b.take a).filter p).length sc) ((b.take a).filter p).length (ints (bW ((b.take a).filter p))) rfl (SB.o.alloc _) (z _) 1 1 [I m] rfl rfl ?_ ?_ m1.o m2.o ?_ ?_;(intro j u y;match j,y with|0,y=>(cases y;simp[Addr.add]));(intro u G;simp at G;subst G;rfl);(simp;omega);intro v6 w6 kL eG _));go_roundw;case rel =>
       refine⟨a+1,V,Λ, ?_, ?_⟩
       .rw[ad.o,HP.o];show w6.ownsRow w.heap.size 3 1 v6 ((b.take a).filter p++[m]).length (ints (bW ((b.take a).filter p++[m])));rw[TF,ρ];exact kL
       .exact(D.o.alloc D.o.size _).grown eG (by have:=D.o.size;simp;omega) (λg hg=>(SB.o.lt g hg).1)
      case measure=>simp[intOf];omega
     .go_wp2;go_roundw;case rel=>exact⟨a+1,V,Λ,by rw[ad.o,HP.o];simpa using SB.o,D.o⟩
      case measure=>simp[intOf];omega
  .have bc:a=b.length:=V
   subst bc;have ai:=az.o wr so ((b.take b.length).filter p).length sc HB.o (by have:=HO.o;rw[Hz.o]at this⊢;exact this);have b1:J<|_:=ai;clear ai;go_wp2_with fail;go_ret;have hz:=b1.o;rw[Hz.o]at hz;exact⟨rfl,hz⟩
def Pm(w:World)(c rb:Nat)(b h:Value)(e:Nat->Value)(l:Nat)(g:List Ev)(d:Nat)(ld:Ld)(a:List (List Bool))(j:bD w c rb b h e l g d ld a)(i:Int)(k:oI ld a i≠0):Calls prog 53 #[.pointer (some (z c)),I i] w λf n=>f=.returned (I (oI ld a i))/\n=w:=by have m:=iG w c rb b h e l g d ld a j i;have o:=ϑv.2 k;clear j k;generalize oI ld a i=u at *;go_enter func53,ntmps53;go_wp2_with fail;refine ψ m ?_;rintro f p⟨rfl,rfl⟩;go_wp2_with fail;go_ret;exact⟨rfl,rfl⟩
def IZ(len:Nat)(dn:Bool)(f b z:Int):Int:=if 1<=f/\f<=len then(if b<0\/8*z<=b then 1 else if dn then 3 else 9)else 9
def I4(w:World)(c rb:Nat)(s o:Value)(u:Nat->Value)(Q:Nat)(y:List Ev)(t:Nat)(ld:Ld)(m:List (List Bool))(h:bD w c rb s o u Q y t ld m)(a:List lH)(E:List LF)(d:iZ ld.I w o a E)(h5:a.length<=500)(g:∀k(j:k<a.length),a[k].dst<m.length)(f b l:Int)(hz:0<=l/\l<=1000000000)(n:Bool)(i:∀k(j:k<a.length),f=(k:Int)+1->n=(ld.ls a[k].dst).dn.isSome):Calls prog 50 #[.pointer (some (z c)),I f,I b,I l] w λx w'=>x=.returned (I (IZ a.length n f b l))/\Below w.heap.size w w':=by
 obtain⟨S,X,e,a2⟩:=d.shape;have f4:=h.f4;rw[e]at f4;unfold IZ;by_cases h1:f<1
 .clear h d e g i;rw[ύ V];go_enter func50,ntmps50;go_wp2;go_ret;exact⟨rfl,φ _ _⟩
 .by_cases h2:(a.length:Int)<f
  .clear h d e g i;rw[ύ V];go_enter func50,ntmps50;go_wp2;go_ret;exact⟨rfl,φ _ _⟩
  .rw[ώ V];by_cases A:b<0
   .clear h d e g i;rw[ώ (τ A)];go_enter func50,ntmps50;go_wp2;go_ret;exact⟨rfl,φ _ _⟩
   .by_cases B:8*l<=b
    .clear h d e g i;rw[ώ (υ B)];go_enter func50,ntmps50;go_wp2;go_ret;exact⟨rfl,φ _ _⟩
    .rw[ύ V];obtain⟨k,rfl⟩:∃k:Nat,f=(k:Int)+1:=⟨(f-1).toNat,V⟩;have j:k<a.length:=V
     have p:=g k j;obtain⟨Z,W,fc,ko,kc,a6,ho,hn,hc,a5,a0,mo,C,a4,a1,D⟩:=WC h d k j p;obtain⟨T,U,v,F,r1,G,H,K,L,M,N,P,_⟩:=D;rw[<- i k j rfl]at v;have h6:=h.n6;have r:J<|∀q,Below w.heap.size w (w.drewN q):=λq=>below_drewN (φ _ _) q;have a3:(a[k].dst:Int)<(m.length:Int):=V
     have R:(k:Int)<(a.length:Int):=V
     clear h d e g i C f4 F G H K L M N P p;generalize a[k].dst=Y at *;cases n
     all_goals
      go_enter func50,ntmps50;go_wp2_with fail
      go_quiet (fail)
      go_wp2;go_ret;exact⟨rfl,r.o _⟩
