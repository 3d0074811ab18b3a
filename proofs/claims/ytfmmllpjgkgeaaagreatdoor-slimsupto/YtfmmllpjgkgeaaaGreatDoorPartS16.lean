import Derived.Test.YtfmmllpjgkgeaaaGreatDoorPartS13
set_option linter.unusedVariables false
set_option linter.unusedSimpArgs false
set_option maxHeartbeats 16000000
set_option maxRecDepth 100000
namespace Go.Proofs.YtfmmllpjgkgeaaaGreatDoor
open Go.Proofs.Tryz Go.RowKit
theorem RefSend_no(w:World)(c rb:Nat)(n o:Value)(m:Nat->Value)(r:Nat)(es:List Ev)(l:Nat)(q:Ld)(knowns:List (List Bool))(p:RefL w c rb n o m r es l q knowns)(i j:Int)(g:¬((0<=i/\i<knowns.length)/\(0<=j/\j<knowns.length))):Calls prog 113 #[.pointer (some (z c)),.int .i64 i,.int .i64 j] w λe h=>e=.returned (.tuple #[.int .i64 0,.int .i64 2])/\h=w:=by
 have b:J<|∀i:Int,Calls prog 109 #[.pointer (some (z c)),.int .i64 i] w λe h=>e=.returned (.int .i64 (upR knowns i))/\h=w:=λi=>UpL_any w c rb n o m r es l q knowns p i;clear p;by_cases d:0<=i/\i<knowns.length
 .have f:¬(0<=j/\j<knowns.length):=λf=>g ⟨d,f⟩;have a:J<|_:=b.o i;have k:J<|_:=b.o j;rw[show upR knowns i=0 from ώ d]at a;rw[show upR knowns j=2 from ύ f]at k;clear d f g b;go_enter func113,ntmps113;go_wp2_with fail;refine ψ a.o ?_;rintro e s⟨rfl,rfl⟩;go_wp2_with fail;refine ψ k.o ?_;rintro e s⟨rfl,rfl⟩;go_wp2_with fail;go_ret2;exact⟨rfl,rfl⟩
 .have a:J<|_:=b.o i;rw[show upR knowns i=2 from ύ d]at a;clear d g b;go_enter func113,ntmps113;go_wp2_with fail;refine ψ a.o ?_;rintro e s⟨rfl,rfl⟩;go_wp2_with fail;go_ret2;exact⟨rfl,rfl⟩
theorem RefSend_bad(w:World)(c rb:Nat)(n d:Value)(m:Nat->Value)(p:Nat)(es:List Ev)(l:Nat)(f:Ld)(knowns:List (List Bool))(h:RefL w c rb n d m p es l f knowns)(a:List FrD){y:List LF}(r:FrAt f.I w d a y)(B:a.length<=500)(i j:Int)(t:0<=i/\i<knowns.length)(u:0<=j/\j<knowns.length)(o:i=j\/500<=a.length):Calls prog 113 #[.pointer (some (z c)),.int .i64 i,.int .i64 j] w λe A=>e=.returned (.tuple #[.int .i64 0,.int .i64 (if i=j then 1 else 7)])/\A=w:=by
 have g:J<|_:=UpL_any w c rb n d m p es l f knowns h i;have k:J<|_:=UpL_any w c rb n d m p es l f knowns h j;rw[show upR knowns i=0 from ώ t]at g;rw[show upR knowns j=0 from ώ u]at k;obtain⟨x,v,s,F⟩:=r.shape;have f4:w.cell? (O c 4)=some (.slice x a.length v):=by rw[<- s];exact h.f4
 clear h r s t u;by_cases b:i=j
 .rw[ώ b];subst b;clear o;go_enter func113,ntmps113;go_wp2_with fail;refine ψ g.o ?_;rintro e q⟨rfl,rfl⟩;go_wp2_with fail;refine ψ k.o ?_;rintro e q⟨rfl,rfl⟩;go_wp2_with fail;go_ret2;exact⟨rfl,rfl⟩
 .rw[ύ b];have E:(i==j)=false:=ό.2 b;have C:500<=a.length:=o.resolve_left b;have D:(500:Int)<=(a.length:Int):=V
  clear o b;go_enter func113,ntmps113;go_wp2_with fail;refine ψ g.o ?_;rintro e q⟨rfl,rfl⟩;go_wp2_with fail;refine ψ k.o ?_;rintro e q⟨rfl,rfl⟩;go_wp2_with fail;go_ret2;exact⟨rfl,rfl⟩
theorem filt_take(l:List Nat)(p:Nat->Bool)(a:Nat)(h:a<l.length):(l.take (a+1)).filter p=(l.take a).filter p++if p l[a]then [l[a]]else []:=by rw[ν h,List.filter_append,List.filter_cons];cases p l[a]<;>rfl
theorem allTo_succ(f:Nat->Bool)(n:Nat):(List.range (n+1)).all f=((List.range n).all f&&f n):=by rw[List.range_succ,List.all_append];simp
theorem ints_snoc(l:List Nat)(m:Nat):ints (natsI (l++[m]))=ints (natsI l)++[.int .i64 m]:=by simp[ints,natsI]
theorem RefTick_ok(w:World)(c rb:Nat)(Q R:Value)(x:Nat->Value)(X:Nat)(es:List Ev)(M:Nat)(f:Ld)(knowns:List (List Bool))(i:RefL w c rb Q R x X es M f knowns)(k:Nat)(E:k<knowns.length)(ab:Nat)(ai:x k=.slice (some (z ab)) knowns.length knowns.length)(ac:SliceT 3 w (x k) (ints (natsI ((List.range knowns.length).map (f.ls k).ak)))):Calls prog 117 #[.pointer (some (z c)),.int .i64 k] w λo w'=>o=.returned (.int .i64 0)/\(∃s,(∀e,s e->f.I e\/w.heap.size<=e)/\(∀e,f.I e->s e)/\RefL w' c rb Q R x X es M ⟨s,updN f.ls k ((f.ls k).tick knowns.length k)⟩ knowns)/\Chg (· = rb) w w':=by
 obtain⟨bn,f1,bp⟩:=i.f1;have h6:=i.n6;have HU:J<|Calls prog 109 #[.pointer (some (z c)),.int .i64 k] w λo w'=>o=.returned (.int .i64 0)/\w'=w:=by have:=UpL_any w c rb Q R x X es M f knowns i k;rw[show upR knowns (k:Int)=0 from ώ V]at this;exact this
 obtain⟨⟨kv,a0,b0⟩,a1,a7,a9,⟨kp,a3,N,_⟩,b8,_⟩:=i.reps k E;obtain⟨l9,bl,ax⟩:=i.m500 k;have a4:=i.a11 k E;obtain⟨i0,hi,bg,bh,bi⟩:=info_parts Tryz.info3;obtain⟨ko,kc,ar,aq⟩:=N.shape;rw[natsI_len]at ar aq;subst ar;rw[ai]at a4 ac;obtain⟨p,hp⟩:∃p:Nat->Bool,p=λm=>!allAk knowns.length k (f.ls k).ak m:=⟨_,rfl⟩;obtain⟨v,hq⟩:∃v:Nat->Nat->Bool,v=λm j=>j==k||decide (m<=(f.ls k).ak j):=⟨_,rfl⟩;have b5:J<|∀m,p m = !(List.range knowns.length).all (v m):=λm=>by rw[hp,hq];(first|done|rfl)
 have K:J<|(f.ls k).tick knowns.length k=⟨(f.ls k).made,(f.ls k).lost,(f.ls k).kept.filter p,(f.ls k).ak⟩:=ω<|by rw[hp];(first|done|rfl)
 obtain⟨b,T⟩:∃b,b=(f.ls k).kept:=⟨_,rfl⟩;rw[<- T]at N aq ax a3;have b3:J<|∀d,Below w.heap.size w d->∀j,j<knowns.length->d.cell? (O ab j)=some (.int .i64 ((f.ls k).ak j)):=λd bt j y=>by obtain⟨e,r,h,q,_,P⟩:=(ac.below bt).natAt (a:=j) (by simpa using y);simp only[Value.slice.injEq,Option.some.injEq,Addr.mk.injEq]at q;obtain⟨⟨rfl,rfl,-⟩,-,-⟩:=q;rw[Nat.zero_add]at P;rw[P];simp
 have af:J<|∀d,Below w.heap.size w d->∀a(D:a<b.length),∃e r,ko=some (O e r)/\d.cell? (O e (r+a))=some (.int .i64 (b[a])):=λd bt a D=>by obtain⟨e,r,h,q,_,P⟩:=(N.below bt).natAt D;simp only[Value.slice.injEq]at q;exact⟨e,r,q.1,P⟩
 have aa:=i.trb.lt;have Hc:J<|∀d,Below w.heap.size w d->d.cell? (O rb (k*13+10))=some (.slice ko b.length kc)/\d.cell? (O rb (k*13+11))=some (.slice (some (z ab)) knowns.length knowns.length)/\∀j,d.frozen? (O rb j)=false:=λd bt=>⟨(bt.cell (p:=(O rb _)) aa).trans a3,(bt.cell (p:=(O rb _)) aa).trans a4,λj=>(bt.frozen (p:=(O rb j)) aa).trans (i.trb.frozen j)⟩;have b1:J<|∀d l n h,Below w.heap.size w d->d.ownsRow w.heap.size 3 1 (.slice l n h) n (ints (natsI (b.filter p)))->(∃s,(∀e,s e->f.I e\/w.heap.size<=e)/\(∀e,f.I e->s e)/\RefL (d.setCell (O rb (k*13+10)) (.slice l n h)) c rb Q R x X es M ⟨s,updN f.ls k ((f.ls k).tick knowns.length k)⟩ knowns)/\Chg (· = rb) w (d.setCell (O rb (k*13+10)) (.slice l n h)):=λd l n h bt U=>by
  have F:=i.below bt;have hc:Chg (· = rb) d (d.setCell (O rb (k*13+10)) (.slice l n h)):=(Chg.refl (· = rb) d).setCell (p:=(O rb (k*13+10))) rfl _;have W:∀A,A≠k*13+10->(d.setCell (O rb (k*13+10)) (.slice l n h)).cell? (O rb A)=d.cell? (O rb A):=λA U=>cs_oth (υ (λo=>U o.symm));obtain⟨⟨bk,b6,bb⟩,_,_,ba,⟨bs,b7,_⟩,b9,_⟩:=F.reps k E;have hs:=(own_sliceT U).chgT hc F.trb Ψ;refine⟨⟨λe=>f.I e\/∃r n' ag,Value.slice l n h=.slice (some (O e r)) n' ag, ?_,λe a6=>τ a6, ?_⟩,(Chg.of_below bt).trans hc⟩
  .rintro e (a6|⟨r,n',ag,o⟩)
   .exact τ a6
   .refine υ ?_;cases o
    rcases U.2 with⟨S,_⟩|⟨g',c',bo,S,h2,_⟩
    .cases S
    .cases S;exact h2
  .have:=F.turn k E bk knowns[k] bb (F.kn _ (κ E)) hc (F.trb.setCell _ _) (L:=(f.ls k).tick knowns.length k) (by rw[K.o];exact⟨l9,bl,ς (List.length_filter_le _ _) (by rw[<- T];exact ax)⟩) ((W _ V).trans b6) (by rw[K.o];exact(W _ V).trans ba) (.slice l n h) (cs_same b7) (by rw[K.o,<- T];exact hs) (by rw[K.o];exact(W _ V).trans b9) (λA S h2 h3 h4=>W A h3);rw[List.set_getElem_self]at this;exact this
 have b4:J<|∀a,a<=b.length->((b.take a).filter p).length<=50:=λa D=>ς (List.length_filter_le _ _) (by rw[List.length_take];omega);have HQ:J<|∀m j,v m j=(j==k||decide (m<=(f.ls k).ak j)):=λm j=>by rw[hq]
 have Hz:J<|b.take b.length=b:=List.take_length;clear ac b0 N hp hq i a0 a1 a7 a9 a3 a4 b8 ai T;generalize (f.ls k).ak=ak at *;go_enter func117,ntmps117;go_wp2_with fail;refine ψ HU.o ?_;rintro o w1⟨rfl,q⟩;rw[q];clear q w1 HU;go_wp2_with fail;clear f1;go_loopw [7,8,9,10] (λv7 v8 _ _ d=>∃a:Nat,a<=b.length/\v8=.int .i64 a/\d.ownsRow w.heap.size 3 1 v7 ((b.take a).filter p).length (ints (natsI ((b.take a).filter p)))/\Below w.heap.size w d) (λ_ v8 _ _ _=>b.length-(intOf v8).toNat);case atStart=>exact⟨0,V,rfl,World.ownsRow_nil _ _ _ _,φ _ _⟩
 case round =>
  obtain⟨a,D,rfl,a8,t⟩:=hrel;have HO:J<|_:=a8;have Z:J<|Below w.heap.size w wr:=t;obtain⟨bm,az,qf⟩:=Hc.o _ t;have bq:=b4.o a D;obtain⟨so,sc,aw,_⟩:=(own_sliceT a8).shape;rw[natsI_len]at aw;clear a8 t;subst aw;by_cases a5:a<b.length
  .have ae:J<|(b.take (a+1)).filter p=(b.take a).filter p++if p b[a]then [b[a]]else []:=filt_take b p a a5;go_wp2_with fail;clear az;go_loopw [9,10] (λv9 ad d=>∃(j:Nat)(B:Bool),j<=knowns.length/\ad=.int .i64 j/\v9=.bool B/\J (B=(List.range j).all (v b[a]))/\Below wr.heap.size wr d) (λ_ ad _=>knowns.length-(intOf ad).toNat);case atStart=>exact⟨0,true,V,rfl,rfl,rfl,φ _ _⟩
   case round =>
    obtain⟨j,B,y,rfl,rfl,H,t⟩:=hrel;have G:J<|_:=t;have bu:Below w.heap.size w wr:=Z.o.trans (t.mono Z.o.size);obtain⟨bm,az,_⟩:=Hc.o _ bu;clear t;by_cases be:j<knowns.length
    .obtain⟨kb,bj,rfl,ck⟩:=af.o _ bu a a5;have ca:=b3.o _ bu j be;have Y:J<|(List.range (j+1)).all (v b[a])=((List.range j).all (v b[a])&&(j==k||decide (b[a]<=ak j))):=ω<|by rw[allTo_succ,HQ.o]
     clear bu;generalize b[a]=m at *;generalize ak j=aj at *;cases B
     .go_wp2_with fail
      go_quiet (fail)
      go_wp2;go_roundw;case rel=>exact⟨j+1,_,V,Λ,rfl,by show _=_;rw[Y.o,<- H.o];rfl,below_drewN G.o _⟩
      case measure=>simp[intOf];omega
     .by_cases ap:j=k
      .subst ap;have bt:((j:Int)==(j:Int))=true:=beq_self_eq_true _;go_wp2_with fail
       go_quiet (fail)
       go_wp2;go_roundw;case rel=>exact⟨j+1,_,V,Λ,rfl,by show _=_;rw[Y.o,<- H.o];simp,below_drewN G.o _⟩
       case measure=>simp[intOf];omega
      .have bt:((j:Int)==(k:Int))=false:=ό.2 V;go_wp2_with fail
       go_quiet (fail)
       go_wp2;go_roundw;case rel=>exact⟨j+1,_,V,Λ,rfl,by show _=_;rw[Y.o,<- H.o];simp[ap],below_drewN G.o _⟩
       case measure=>simp[intOf];omega
    .have an:j=knowns.length:=V
     have HP:J<|p b[a] = !B:=ω<|by rw[b5.o,H.o,an]
     have a2:J<|wr.ownsRow w.heap.size 3 1 (.slice so ((b.take a).filter p).length sc) ((b.take a).filter p).length (ints (natsI ((b.take a).filter p))):=own_below HO.o G.o;have C:J<|Below w.heap.size w wr:=bu;obtain⟨kb,bj,rfl,ck⟩:=af.o _ bu a a5;generalize hm:b[a]=m at *;clear hm an bu;have br:w.heap.size<=wr.heap.size:=C.o.size;cases B
     .have m1:J<|((b.take a).filter p).length+1<=maxLen:=by unfold J maxLen;omega
      have m2:J<|(((b.take a).filter p).length+1)*8<=140737488355328:=ω V
      go_wp2_with (first|(at_builtin;refine wpList_append_own _ rfl (.tmp 66) (.tmp 74) 42 rfl w.heap.size 3 i0 (.int .i64 0) 1 8 underlying42 hi bg bh bi rfl Ψ (.slice so ((b.take a).filter p).length sc) ((b.take a).filter p).length (ints (natsI ((b.take a).filter p))) rfl (a2.o.alloc _) (z _) 1 1 [.int .i64 m] rfl rfl ?_ ?_ m1.o m2.o ?_ ?_;(intro j u y;match j,y with|0,y=>(cases y;simp[Addr.add]));(intro u hu;simp at hu;subst hu;rfl);(simp;omega);intro v6 w6 bf bd _));go_roundw;case rel =>
       refine⟨a+1,V,Λ, ?_, ?_⟩
       .rw[ae.o,HP.o];show w6.ownsRow w.heap.size 3 1 v6 ((b.take a).filter p++[m]).length (ints (natsI ((b.take a).filter p++[m])));rw[ints_snoc,ρ];exact bf
       .exact(C.o.alloc C.o.size _).grown bd (by have:=C.o.size;simp;omega) (λg hg=>(a2.o.lt g hg).1)
      case measure=>simp[intOf];omega
     .go_wp2;go_roundw;case rel=>exact⟨a+1,V,Λ,by rw[ae.o,HP.o];simpa using a2.o,C.o⟩
      case measure=>simp[intOf];omega
  .have bc:a=b.length:=V
   subst bc;have al:=b1.o wr so ((b.take b.length).filter p).length sc Z.o (by have:=HO.o;rw[Hz.o]at this⊢;exact this);have b2:J<|_:=al;clear al;go_wp2_with fail;go_ret;have hz:=b2.o;rw[Hz.o]at hz;exact⟨rfl,hz⟩
theorem RefTick_no(w:World)(c rb:Nat)(f g:Value)(d:Nat->Value)(l:Nat)(es:List Ev)(b:Nat)(k:Ld)(knowns:List (List Bool))(h:RefL w c rb f g d l es b k knowns)(i:Int)(j:¬(0<=i/\i<knowns.length)):Calls prog 117 #[.pointer (some (z c)),.int .i64 i] w λe m=>e=.returned (.int .i64 2)/\m=w:=by have a:=UpL_any w c rb f g d l es b k knowns h i;rw[show upR knowns i=2 from ύ j]at a;clear h j;go_enter func117,ntmps117;go_wp2_with fail;refine ψ a ?_;rintro e n⟨rfl,rfl⟩;go_wp2_with fail;go_ret;exact⟨rfl,rfl⟩
def spoilQ(len:Nat)(f b z:Int):Int:=if 1<=f/\f<=len then(if b<0\/8*z<=b then 1 else 9)else 9
theorem RefSpoil_any(w:World)(c rb:Nat)(t l:Value)(r:Nat->Value)(L:Nat)(es:List Ev)(p:Nat)(n:Ld)(knowns:List (List Bool))(h:RefL w c rb t l r L es p n knowns)(a:List FrD)(y:List LF)(d:FrAt n.I w l a y)(Z:a.length<=500)(e:∀k(j:k<a.length),a[k].dst<knowns.length)(f b i:Int)(hz:0<=i/\i<=1000000000):Calls prog 115 #[.pointer (some (z c)),.int .i64 f,.int .i64 b,.int .i64 i] w λs w'=>s=.returned (.int .i64 (spoilQ a.length f b i))/\Below w.heap.size w w':=by
 obtain⟨M,R,g,a2⟩:=d.shape;have f4:=h.f4;rw[g]at f4;unfold spoilQ;by_cases X:f<1
 .clear h d g e;rw[ύ V];go_enter func115,ntmps115;go_wp2;go_ret;exact⟨rfl,φ _ _⟩
 .by_cases Y:(a.length:Int)<f
  .clear h d g e;rw[ύ V];go_enter func115,ntmps115;go_wp2;go_ret;exact⟨rfl,φ _ _⟩
  .rw[ώ V];by_cases u:b<0
   .clear h d g e;rw[ώ (τ u)];go_enter func115,ntmps115;go_wp2;go_ret;exact⟨rfl,φ _ _⟩
   .by_cases v:8*i<=b
    .clear h d g e;rw[ώ (υ v)];go_enter func115,ntmps115;go_wp2;go_ret;exact⟨rfl,φ _ _⟩
    .rw[ύ V];obtain⟨k,rfl⟩:∃k:Nat,f=(k:Int)+1:=⟨(f-1).toNat,V⟩;have j:k<a.length:=V
     have m:=e k j;obtain⟨U,Q,W,ko,kc,a7,ho,hn,hc,a6,a0,mo,x,a4,a1,D⟩:=delC h d k j m;obtain⟨N,P,S,A,r1,B,C,E,F,G,H,K,_⟩:=D;have h6:=h.n6;have o:J<|∀q,Below w.heap.size w (w.drewN q):=λq=>below_drewN (φ _ _) q;have a3:(a[k].dst:Int)<(knowns.length:Int):=V
     have a5:(k:Int)<(a.length:Int):=V
     clear h d g e x f4 A B C E F G H K m;generalize a[k].dst=T at *;go_enter func115,ntmps115;go_wp2_with fail
     go_quiet (fail)
     go_wp2;go_ret;exact⟨rfl,o.o _⟩
