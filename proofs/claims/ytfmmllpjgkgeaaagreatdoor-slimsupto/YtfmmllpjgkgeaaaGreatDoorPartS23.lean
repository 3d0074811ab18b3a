import Derived.Test.YtfmmllpjgkgeaaaGreatDoorPartS22
set_option linter.unusedVariables false
set_option linter.unusedSimpArgs false
set_option maxHeartbeats 16000000
set_option maxRecDepth 100000
namespace Go.Proofs.YtfmmllpjgkgeaaaGreatDoor
section
open Go.Proofs.Tryz Go.RowKit Go.Maps Go.WideMaps Go.Shelf
attribute [local go_sem] Oper.semAt_some
theorem alive_any(w:World)(rb:Nat):Calls prog 96 #[.pointer (some (z rb))] w λe a=>e=.returned (.func (.func 162) #[] #[.pointer (some (z w.heap.size))])/\a=w.alloc (.cells #[.pointer (some (z rb))] 81):=by go_enter func96,ntmps96;go_wp2;go_ret;exact⟨rfl,rfl⟩
theorem CV(w0:World)(j rb a:Nat)(io co lo:Option Nat)(K:Nat->Nat)(C:Nat->Option Thk.Ch)(aq:ah w0 j #[.pointer (some (z rb))] 81)(s:mD w0 rb a io co lo K C):Iter prog 162 #[.pointer (some (z j))] (λx:dV=>#[Value.agg #[.string x.p,.int .u8 x.a,.string x.v,.int .i64 x.m]]) (gY (itOf C)) (λk=>k=j\/k=rb\/io=some k) w0:=by
 intro m R Jx W U w a2 hY h0;have a7:ah W j #[.pointer (some (z rb))] 81:=(U.2 j (τ rfl)).trans aq;have D:kR W rb a io co lo:=s.blk.heap (U.2 rb (υ (τ rfl)));obtain⟨N,hN⟩:=s.st.its;have Iu:aW prog 134 W (.map io) N (im (itOf C)):=by
  rcases hN with h|⟨b,hb,h⟩
  .exact τ h
  .exact υ ⟨b,hb,h.block (U.2 b (υ (υ (by cases hb;rfl))))⟩
 have gB:∀k,itOf C k≠none->okD k:=λk aq=>(s.st.ok k aq).1;have a5:=s.a5;have an:=a7.lt;have ao:=D.lt;have a6:∀k,io=some k->k<W.heap.size:=λk aq=>Iu.lt k (by rw[aq]);have cA:∀o,(W.alloc o).cell? (z j)=some (.pointer (some (z rb))):=λo=>((a7.alloc o).cell 0).trans rfl;have r1:∀o,(W.alloc o).cell? (O rb 1)=some (.map io):=λo=>((D.alloc o).cell 1).trans rfl;have r2:∀o,(W.alloc o).cell? (O rb 2)=some (.map co):=λo=>((D.alloc o).cell 2).trans rfl;have r3:∀o,(W.alloc o).cell? (O rb 3)=some (.map lo):=λo=>((D.alloc o).cell 3).trans rfl;have aa:J<|∀wx,Calls prog 148 #[.agg #[.map io,.map co,.map lo]] wx _:=λwx=>zh wx io co lo;clear s hN aq;refine callsIn_of_wp_marks func162 rfl trivial ?_ rfl;simp only[ntmps162,List.size_toArray,δ,List.length_nil,Nat.reduceAdd,Nat.reduceSub,Array.replicate_succ,Array.replicate_zero,List.push_toArray,List.append_toArray,List.nil_append,List.cons_append];gi_wp2_with fail;refine⟨trivial,(callsIn_wide.2 (aa.o _)).mono ?_⟩;rintro e w1⟨rfl,rfl⟩;gi_wp2_with fail;have a4:Below W.heap.size W ((W.alloc (.cells #[.func (.yield m) #[] #[]] 89)).alloc (.cells #[.map io,.map co,.map lo] 102)):=((φ _ W).alloc (χ _) _).alloc Ω _;have ky:ah ((W.alloc (.cells #[.func (.yield m) #[] #[]] 89)).alloc (.cells #[.map io,.map co,.map lo] 102)) W.heap.size #[.func (.yield m) #[] #[]] 89:=(ah.new W _ _).alloc _;have ks:ah ((W.alloc (.cells #[.func (.yield m) #[] #[]] 89)).alloc (.cells #[.map io,.map co,.map lo] 102)) (W.heap.size+1) #[.map io,.map co,.map lo] 102:=by have:=ah.new (W.alloc (.cells #[.func (.yield m) #[] #[]] 89)) #[.map io,.map co,.map lo] 102;rwa [ϊ]at this
 generalize ((W.alloc (.cells #[.func (.yield m) #[] #[]] 89)).alloc (.cells #[.map io,.map co,.map lo] 102))=w3 at *;have ag:W.heap.size+1<w3.heap.size:=ks.lt;have ac:Iter prog 202 #[.pointer (some (z (W.heap.size+1)))] (λx:dV=>#[aA x.n,Value.agg #[.string x.p,.int .u8 x.a,.string x.v,.int .i64 x.m]]) (gY (itOf C)) (λk=>k=W.heap.size+1\/io=some k) w3:=qF w3 (W.heap.size+1) io co lo (itOf C) N ks (Iu.below a4) gB (λk v h=>gK h);obtain⟨P,l⟩:∃P:(Nat->Prop)->Nat->Prop,P=λT k=>T k\/k=W.heap.size\/k=W.heap.size+1:=⟨_,rfl⟩;have r:∀{T T':Nat->Prop}{A B:World},Chg T A B->(∀k,T' k->(T k\/A.heap.size<=k)/\k<B.heap.size)->W.heap.size+2<=A.heap.size->Chg (P T) A B/\∀k,P T' k->(P T k\/A.heap.size<=k)/\k<B.heap.size:=by
  intro T T' A B g d hs;refine⟨g.mono (λk _ aq=>by rw[l];exact τ aq),λk aq=>?_⟩;rw[l]at aq⊢;have:=g.size;rcases aq with aq|aq
  .exact⟨(d k aq).1.imp τ id,(d k aq).2⟩
  .exact⟨τ (υ aq),V⟩
 refine dP (gf:=202) (lb:=#[.pointer (some (z (W.heap.size+1)))]) rfl (enters_of func202 (by kernel_rfl) rfl) ac (aK.refl _ _) (λk aq=>by rcases aq with rfl|aq;exact ag;have:=a6 k aq;omega) (λ_=>rfl)
  (λT ar f=>R (P T) ar f/\ah f W.heap.size #[.func (.yield m) #[] #[]] 89/\¬T W.heap.size/\W.heap.size+2<=f.heap.size) (λS T ar f=>S=.ret/\Jx (P T) ar f/\W.heap.size+2<=f.heap.size)
  (λT T' ar A B h g d=>by have c:=r g d h.2.2.2;exact⟨w _ _ _ _ _ h.1 c.1 c.2,h.2.1.chg g h.2.2.1,λaq=>by rcases(d _ aq).1 with h2|h2;exact h.2.2.1 h2;have:=h.2.2.2;omega,ς h.2.2.2 g.size⟩)
  (λS T T' ar A B h g d=>by have c:=r g d h.2.2;exact⟨h.1,a2 _ _ _ _ _ h.2.1 c.1 c.2,ς h.2.2 g.size⟩)
  ⟨w _ _ _ _ _ h0 (Chg.of_below a4) (λk aq=>by rw[l]at aq;rcases aq with aq|aq;exact aq.elim;exact⟨υ V,V⟩),ky,λh=>h,V⟩ ?round ?done ?stop
 case round =>
  rintro l' T ar x n al d⟨p,Z,L,q⟩ Bv ⟨ys,ai,af⟩;obtain⟨xn,G,E,H,F⟩:=x;gi_wp2;refine⟨⟨Ω,λk aq=>?_⟩, ?_⟩
  .refine((φ n.heap.size n).alloc (χ _) _).block k (aq.elim (λh=>?_) (λh=>(d k h).2));rcases h with rfl|h
   .omega
   .have:=a6 k h;omega
  intro W2 Y a8 hE2;have ae:∀k,T k->k<W2.heap.size:=λk aq=>by rw[a8];have:=(d k aq).2;simp;omega
  have y:Chg T n W2:=(Chg.of_below ((φ n.heap.size n).alloc (χ _) _)).trans Y;have c:=r y (λk aq=>⟨τ aq,ae k aq⟩) q;have a0:R (P T) ar W2:=w _ _ _ _ _ p c.1 c.2;have aw:=Z.chg y L;have u:ah W2 n.heap.size #[.string G,.int .u8 E,.string H,.int .i64 F] 86:=(ah.new n _ _).chg Y (λaq=>by have:=(d _ aq).2;omega);have y0:=(aw.cell 0).trans rfl;have b0:=(u.cell 0).trans rfl;have b1:=(u.cell 1).trans rfl;have b2:=(u.cell 2).trans rfl;have b3:=(u.cell 3).trans rfl;obtain⟨fn,ap,aj,ak,hy,Q⟩:=hY (P T) ar ⟨xn,G,E,H,F⟩ W2 a0 ⟨ys,ai,af⟩;try dsimp only at hy
  have IC:J<|ah W2 W.heap.size #[.func (.yield m) #[] #[]] 89:=aw;have a9:W.heap.size+2<=W2.heap.size:=ς q y.size;clear Z aw u y Y a8 hE2 Bv p a0 c;gi_wp2;refine RoundIn.mono (kM (cZ Q)) ?_;rintro e av (⟨rfl,a1,t⟩|⟨rfl,a3,t⟩)
  .have i:J<|R (P T) (ar++[⟨xn,G,E,H,F⟩]) av/\aK (λk=>(k=j\/k=rb\/io=some k)\/P T k) W2 av:=⟨a1,t⟩;clear a1 t y0 b0 b1 b2 b3 hy Q;gi_wp2;refine⟨⟨i.o.1,(i.o.2.2 _ (υ (by rw[l];exact υ (τ rfl)))).trans IC.o,L,ς a9 i.o.2.1⟩,i.o.2.mono (λk aq=>?_)⟩;rcases aq with(rfl|aq)|aq
   .exact υ (by rw[l];exact υ (υ rfl))
   .exact τ (υ (υ aq))
   .exact υ (by rw[l];exact τ aq)
  .have i:J<|Jx (P T) (ar++[⟨xn,G,E,H,F⟩]) av/\aK (λk=>(k=j\/k=rb\/io=some k)\/P T k) W2 av:=⟨a3,t⟩;clear a3 t y0 b0 b1 b2 b3 hy Q;gi_wp2;refine⟨⟨rfl,i.o.1,ς a9 i.o.2.1⟩,i.o.2.mono (λk aq=>?_)⟩;rcases aq with(rfl|aq)|aq
   .exact υ (by rw[l];exact υ (υ rfl))
   .exact τ (υ (υ aq))
   .exact υ (by rw[l];exact τ aq)
 case done =>rintro M T xs f hD sG ad⟨p,Z,L,q⟩ d X;gi_wp2;refine⟨Ω,.inl ⟨_,_,rfl,run_takeDeferred X, ?_⟩⟩;refine⟨_,results_none rfl _ _ _,⟨_,rfl⟩,τ ⟨xs,ad,P T, ?_⟩⟩;have c:=r (T:=T) (T':=T) (bJ f M (.deferred none) sG) (λk aq=>⟨τ aq,by rw[aV];exact(d k aq).2⟩) q;exact w _ _ _ _ _ p c.1 c.2
 case stop =>rintro M T S ar f hD sG⟨rfl,p,q⟩ d X;gi_wp2;refine⟨Ω,.inl ⟨_,_,rfl,run_takeDeferred X, ?_⟩⟩;refine⟨_,results_none rfl _ _ _,⟨_,rfl⟩,υ ⟨ar,P T, ?_⟩⟩;have c:=r (T:=T) (T':=T) (bJ f M (.deferred none) sG) (λk aq=>⟨τ aq,by rw[aV];exact(d k aq).2⟩) q;exact a2 _ _ _ _ _ p c.1 c.2
end
section
open Go.Proofs.Tryz Go.RowKit Go.Maps Go.WideMaps Go.Shelf
attribute [local go_sem] Oper.semAt_some
theorem vw(w:World)(p:ByteArray)(gf:Nat)(lb:Array Value):Calls prog 159 #[.string p,.func (.func gf) #[] lb] w λe a=>e=.returned (.func (.func 218) #[] #[.pointer (some (z (w.heap.size+1))),.pointer (some (z w.heap.size))])/\a=(w.alloc (.cells #[.string p] 83)).alloc (.cells #[.func (.func gf) #[] lb] 145):=by go_enter func159,ntmps159;go_wp2;go_ret;exact⟨rfl,rfl⟩
def nZ(p:ByteArray)(xs:List dV):List dV:=xs.filter (λx=>x.p.toList==p.toList)
def MV(S:List dV->Prop)(p:ByteArray)(ys:List dV):Prop:=∃xs,S xs/\ys=nZ p xs
theorem FM(w0:World)(l b6:Nat)(p:ByteArray)(gf:Nat)(lb:Array Value)(S:List dV->Prop)(E:Nat->Prop)(al:Iter prog gf lb (λx:dV=>#[Value.agg #[.string x.p,.int .u8 x.a,.string x.v,.int .i64 x.m]]) S E w0)(eg:∀a5 w,(callFunc gf a5).run prog w=.ok (.enter gf a5) w)(a0:∀k,E k->k<w0.heap.size)(hf:ah w0 l #[.func (.func gf) #[] lb] 145)(hp:ah w0 b6 #[.string p] 83):Iter prog 218 #[.pointer (some (z l)),.pointer (some (z b6))] (λx:dV=>#[Value.agg #[.string x.p,.int .u8 x.a,.string x.v,.int .i64 x.m]]) (MV S p) (λk=>k=l\/k=b6\/E k) w0:=by
 intro s G Jx W L M a8 hY h0;have aa:ah W l #[.func (.func gf) #[] lb] 145:=(L.2 l (τ rfl)).trans hf;have ab:ah W b6 #[.string p] 83:=(L.2 b6 (υ (τ rfl))).trans hp;have aw:=aa.lt;have ax:=ab.lt;have az:w0.heap.size<=W.heap.size:=L.1;have ai:aK E w0 W:=L.mono (λk a=>υ (υ a));have cA:∀o,(W.alloc o).cell? (z l)=some (.func (.func gf) #[] lb):=λo=>((aa.alloc o).cell 0).trans rfl;clear hf hp;refine callsIn_of_wp_marks func218 rfl trivial ?_ rfl;simp only[ntmps218,List.size_toArray,δ,List.length_nil,Nat.reduceAdd,Nat.reduceSub,Array.replicate_succ,Array.replicate_zero,List.push_toArray,List.append_toArray,List.nil_append,List.cons_append];gi_wp2_with fail;have N:Below W.heap.size W (W.alloc (.cells #[.func (.yield s) #[] #[]] 89)):=(φ _ W).alloc (χ _) _;have ky:ah (W.alloc (.cells #[.func (.yield s) #[] #[]] 89)) W.heap.size #[.func (.yield s) #[] #[]] 89:=ah.new W _ _;have ad:=ab.below N;generalize (W.alloc (.cells #[.func (.yield s) #[] #[]] 89))=w3 at *;have b4:W.heap.size<w3.heap.size:=ky.lt;obtain⟨P,q⟩:∃P:(Nat->Prop)->Nat->Prop,P=λT k=>T k\/k=W.heap.size:=⟨_,rfl⟩;have b8:∀{T T':Nat->Prop}{A B:World},Chg T A B->(∀k,T' k->(T k\/A.heap.size<=k)/\k<B.heap.size)->W.heap.size+1<=A.heap.size->Chg (P T) A B/\∀k,P T' k->(P T k\/A.heap.size<=k)/\k<B.heap.size:=by
  intro T T' A B i d hs;refine⟨i.mono (λk _ a=>by rw[q];exact τ a),λk a=>?_⟩;rw[q]at a⊢;have:=i.size;rcases a with a|a
  .exact⟨(d k a).1.imp τ id,(d k a).2⟩
  .exact⟨τ (υ a),V⟩
 refine dP (E:=λk=>k=b6\/E k) (w0:=w3) (S:=S) (encs:=λx:dV=>#[Value.agg #[.string x.p,.int .u8 x.a,.string x.v,.int .i64 x.m]]) (gf:=gf) (lb:=lb) rfl eg ?it (aK.refl _ _) (λk a=>by rcases a with rfl|a;omega;have:=a0 k a;omega) (λ_=>rfl)
  (λT c f=>G (P T) (nZ p c) f/\ah f W.heap.size #[.func (.yield s) #[] #[]] 89/\¬T W.heap.size/\W.heap.size+1<=f.heap.size) (λY T c f=>Y=.ret/\Jx (P T) (nZ p c) f/\W.heap.size+1<=f.heap.size)
  (λT T' c A B h i d=>by have b:=b8 i d h.2.2.2;exact⟨M _ _ _ _ _ h.1 b.1 b.2,h.2.1.chg i h.2.2.1,λa=>by rcases(d _ a).1 with K|K;exact h.2.2.1 K;have:=h.2.2.2;omega,ς h.2.2.2 i.size⟩)
  (λY T T' c A B h i d=>by have b:=b8 i d h.2.2;exact⟨h.1,a8 _ _ _ _ _ h.2.1 b.1 b.2,ς h.2.2 i.size⟩)
  ⟨M _ _ _ _ _ h0 (Chg.of_below N) (λk a=>by rw[q]at a;rcases a with a|a;exact a.elim;exact⟨υ V,V⟩),ky,λh=>h,V⟩ ?round ?done ?stop
 case it =>
  intro l2 J2 af W2 an g1 g2 g3 g4;refine al l2 J2 af W2 ((ai.trans ⟨N.size,λk a=>N.block k (by have:=a0 k a;omega)⟩).trans (an.mono (λk a=>υ a))) g1 g2 (λT c x g b K=>?_) g4;refine YieldAt.mono (g3 T c x g b K) ?_;rintro e f (⟨rfl,Z,h4⟩|⟨rfl,Z,h4⟩)
  .exact τ ⟨rfl,Z,h4.mono (λk a=>a.imp υ id)⟩
  .exact υ ⟨rfl,Z,h4.mono (λk a=>a.imp υ id)⟩
 case round =>
  rintro l' T c x g av d⟨b7,a2,F,r⟩ Bv ⟨ys,ap,ao⟩;have ag:ah g b6 #[.string p] 83:=(Bv.2 b6 (τ rfl)).trans ad;obtain⟨D,n,t,v,u⟩:=x;gi_wp2;refine⟨⟨Ω,λk a=>?_⟩, ?_⟩
  .refine((φ g.heap.size g).alloc (χ _) _).block k (a.elim (λh=>?_) (λh=>(d k h).2));rcases h with rfl|h
   .omega
   .have:=a0 k h;omega
  intro W2 a1 ac hE2;have ak:∀k,T k->k<W2.heap.size:=λk a=>by rw[ac];have:=(d k a).2;simp;omega
  have Q:Chg T g W2:=(Chg.of_below ((φ g.heap.size g).alloc (χ _) _)).trans a1;have b:=b8 Q (λk a=>⟨τ a,ak k a⟩) r;have a6:G (P T) (nZ p c) W2:=M _ _ _ _ _ b7 b.1 b.2;have U:=a2.chg Q F;have Xf:ah W2 b6 #[.string p] 83:=(hE2.2 b6 (τ rfl)).trans ad;have C:ah W2 g.heap.size #[.string n,.int .u8 t,.string v,.int .i64 u] 86:=(ah.new g _ _).chg a1 (λa=>by have:=(d _ a).2;omega);have y0:=(U.cell 0).trans rfl;have p0:=(Xf.cell 0).trans rfl;have b0:=(C.cell 0).trans rfl;have b1:=(C.cell 1).trans rfl;have b2:=(C.cell 2).trans rfl;have b3:=(C.cell 3).trans rfl;have IC:J<|ah W2 W.heap.size #[.func (.yield s) #[] #[]] 89:=U;have a3:W.heap.size+1<=W2.heap.size:=ς r Q.size;have a4:J<|G (P T) (nZ p c) W2:=a6;have ae:J<|aK (λk=>(k=b6\/E k)\/T k) W2 W2:=aK.refl _ _;have m:nZ p (c++[⟨D,n,t,v,u⟩])=nZ p c++(if n.toList==p.toList then [⟨D,n,t,v,u⟩]else []):=by unfold nZ;rw[List.filter_append];congr 1;simp only[List.filter_cons,List.filter_nil]
  clear a2 U C Q a1 ac hE2 Bv b7 a6 b ag Xf;cases hxp:(n.toList==p.toList) with
  | false =>rw[hxp]at m;simp only[Bool.false_eq_true,if_false,List.append_nil]at m;gi_wp2;refine⟨λ_ h=>(by cases h), ?_⟩;gi_wp2;refine⟨⟨by rw[m];exact a4.o,IC.o,F,a3⟩,ae.o⟩
  | true =>
   rw[hxp]at m;simp only[if_true]at m;obtain⟨fn,b5,aq,ar,hy,X⟩:=hY (P T) (nZ p c) ⟨D,n,t,v,u⟩ W2 a4.o ⟨nZ p ys,⟨ys,ap,rfl⟩,by rw[<- m];exact ao.filter _⟩;try dsimp only at hy
   gi_wp2;refine RoundIn.mono (kM (cZ X)) ?_;rintro e H (⟨rfl,a7,y⟩|⟨rfl,a9,y⟩)
   .have j:J<|G (P T) (nZ p c++[⟨D,n,t,v,u⟩]) H/\aK (λk=>(k=l\/k=b6\/E k)\/P T k) W2 H:=⟨a7,y⟩;clear a7 y y0 b0 b1 b2 b3 hy X;gi_wp2;refine⟨⟨by rw[m];exact j.o.1,(j.o.2.2 _ (υ (by rw[q];exact υ rfl))).trans IC.o,F,ς a3 j.o.2.1⟩,j.o.2.mono (λk a=>?_)⟩;rcases a with(rfl|a)|a
    .exact τ (υ (τ rfl))
    .exact τ (υ (υ a))
    .exact υ (by rw[q];exact τ a)
   .have j:J<|Jx (P T) (nZ p c++[⟨D,n,t,v,u⟩]) H/\aK (λk=>(k=l\/k=b6\/E k)\/P T k) W2 H:=⟨a9,y⟩;clear a9 y y0 b0 b1 b2 b3 hy X;gi_wp2;refine⟨⟨rfl,by rw[m];exact j.o.1,ς a3 j.o.2.1⟩,j.o.2.mono (λk a=>?_)⟩;rcases a with(rfl|a)|a
    .exact τ (υ (τ rfl))
    .exact τ (υ (υ a))
    .exact υ (by rw[q];exact τ a)
 case done =>rintro R T xs f hD sG aj⟨b7,a2,F,r⟩ d hK;gi_wp2;refine⟨Ω,.inl ⟨_,_,rfl,run_takeDeferred hK, ?_⟩⟩;refine⟨_,results_none rfl _ _ _,⟨_,rfl⟩,τ ⟨nZ p xs,⟨xs,aj,rfl⟩,P T, ?_⟩⟩;have b:=b8 (T:=T) (T':=T) (bJ f R (.deferred none) sG) (λk a=>⟨τ a,by rw[aV];exact(d k a).2⟩) r;exact M _ _ _ _ _ b7 b.1 b.2
 case stop =>rintro R T Y c f hD sG⟨rfl,b7,r⟩ d hK;gi_wp2;refine⟨Ω,.inl ⟨_,_,rfl,run_takeDeferred hK, ?_⟩⟩;refine⟨_,results_none rfl _ _ _,⟨_,rfl⟩,υ ⟨nZ p c,P T, ?_⟩⟩;have b:=b8 (T:=T) (T':=T) (bJ f R (.deferred none) sG) (λk a=>⟨τ a,by rw[aV];exact(d k a).2⟩) r;exact a8 _ _ _ _ _ b7 b.1 b.2
end
section
open Go.Proofs.Tryz Go.RowKit Go.Maps Go.WideMaps Go.Shelf
attribute [local go_sem] Oper.semAt_some
theorem Tryz.infoStr:(prog.info? 9).map (λi=>(i.zero,i.size,i.bytes))=some (some (.string ⟨#[]⟩),1,16):=by kernel_rfl
def iq(l:List ByteArray):List Value:=l.map Value.string
theorem vC(l:List ByteArray)(s:ByteArray):iq (l++[s])=iq l++[.string s]:=by simp[iq]
theorem zL(w:World)(gf:Nat)(lb:Array Value)(S:List dV->Prop)(E:Nat->Prop)(U:Iter prog gf lb (λx:dV=>#[Value.agg #[.string x.p,.int .u8 x.a,.string x.v,.int .i64 x.m]]) S E w)(L:∀r w,(callFunc gf r).run prog w=.ok (.enter gf r) w)(i:∀k,E k->k<w.heap.size)(M:∀ab,S ab->ab.length<=1000):Calls prog 161 #[.func (.func gf) #[] lb] w λK w'=>∃v ab,K=.returned v/\S ab/\w'.ownsRow w.heap.size 9 1 v ab.length (iq (ab.map dV.v))/\Below w.heap.size w w':=by
 obtain⟨i0,R,a2,a3,a4⟩:=info_parts Tryz.infoStr;refine(callsIn_wide (n:=3)).1 ?_;refine callsIn_of_wp_marks func161 rfl trivial ?_ rfl;simp only[ntmps161,List.size_toArray,δ,List.length_nil,Nat.reduceAdd,Nat.reduceSub,Array.replicate_succ,Array.replicate_zero,List.push_toArray,List.append_toArray,List.nil_append,List.cons_append];gi_wp2;have ac:Below w.heap.size w (w.alloc (.cells #[.slice none 0 0] 141)):=(φ _ w).alloc (χ _) _;refine dP (gf:=gf) (lb:=lb) rfl L U ⟨ac.size,λk a=>ac.block k (i k a)⟩ (λk a=>ο (i k a) ac.size) (λ_=>rfl)
  (λT b W=>Coll w w.heap.size 141 9 1 (iq (b.map dV.v)) b.length T W) (λ_ _ _ _=>False)
  (λT T' b W W' h P f=>h.je P f) (λ_ _ _ _ _ _ h _ _=>h)
  ⟨_,Boxed.new w _ _,World.ownsRow_nil _ _ _ _,λh=>h,λ_ _ h=>h,ac,λ_ h=>h.elim,χ _⟩ ?round ?done ?stop
 case round =>
  rintro l T b x W a6 f⟨v,e⟩ Bv ⟨ys,a1,a0⟩;have aa:b.length+1<=1000:=by have:=M ys a1;have:=a0.length_le;simp at this;omega
  obtain⟨xn,xp,xa,m,xm⟩:=x;gi_wp2;refine⟨⟨Ω,λk a=>?_⟩, ?_⟩
  .exact((φ _ W).alloc (χ _) _).block k (a.elim (λh=>ο (i k h) e.below.size) (λh=>(f k h).2))
  intro d o A hE2;have u:∀k,T k->k<d.heap.size:=λk a=>by rw[A];have:=(f k a).2;simp;omega
  have g:fC w w.heap.size 141 9 1 (iq (b.map dV.v)) b.length T d v:=e.je ((Chg.of_below ((φ _ W).alloc (χ _) _)).trans o) (λk a=>⟨τ a,u k a⟩);have C:ah d W.heap.size #[.string xp,.int .u8 xa,.string m,.int .i64 xm] 86:=(ah.new W _ _).chg o (λa=>by have:=(f _ a).2;omega);have H:=g.bx.cell;have d2:=(C.cell 2).trans rfl;have q:J<|fC w w.heap.size 141 9 1 (iq (b.map dV.v)) b.length T d v:=g;have a7:w.heap.size<=d.heap.size:=g.below.size;have Z:J<|b.length+1<=maxLen:=by unfold J maxLen;omega
  have Y:J<|(b.length+1)*16<=140737488355328:=ω V
  have G:J<|∀B F,([.string m]:List Value)[B]?=some F->(d.alloc (.cells #[.string m] 9)).cell? (((z d.heap.size):Addr).add B)=some F:=cell_one_new d _ _;clear e g C o hE2 A;gi_wp2_with (first|(gi_at_builtin;refine wpListIn_append_own_at _ rfl (.tmp 7) (.tmp 10) 141 rfl w.heap.size 9 i0 (.string ⟨#[]⟩) 1 16 underlying141 R a2 a3 a4 rfl Ψ v b.length _ rfl (q.o.row.alloc _) (z d.heap.size) 1 1 [.string m] rfl rfl G.o (by simp[Value.oneCell']) Z.o Y.o Θ ?_;intro v' w1 y Q _ X;have j:=q.o.app (E:=E) Ψ y Q X u i;obtain⟨g',a5,rfl⟩:=ownsRow_succ y;have a8:=j.1.cell;have a9:=j.1.frozen));refine⟨?_,j.2.2⟩;have s:=j.2.1;rw[<- vC]at s;exact⟨_,by rw[ρ,List.map_append];exact s⟩
 case done =>
  rintro D T ab W hD sG N⟨v,e⟩ f t;have H:=e.bx.cell;have p:J<|fC w w.heap.size 141 9 1 (iq (ab.map dV.v)) ab.length T W v:=e;clear e;gi_wp2;refine⟨Ω,.inl ⟨_,_,rfl,run_takeDeferred t, ?_⟩⟩;refine⟨_,results_tmp rfl _ _ _,v,ab,rfl,N, ?_, ?_⟩
  .exact ownsRow_putObj p.o.row _ t rfl
  .exact(p.o.je (T':=T) (bJ W D (.deferred none) sG) (λk a=>⟨τ a,by rw[aV];exact(f k a).2⟩)).below
 case stop =>rintro D T c b W _ _ h;exact h.elim
theorem MW(w:World)(gf:Nat)(lb:Array Value)(S:List dV->Prop)(E:Nat->Prop)(a0:Iter prog gf lb (λx:dV=>#[Value.agg #[.string x.p,.int .u8 x.a,.string x.v,.int .i64 x.m]]) S E w)(R:∀K w,(callFunc gf K).run prog w=.ok (.enter gf K) w)(y:∀k,E k->k<w.heap.size):Calls prog 158 #[.func (.func gf) #[] lb] w λe w'=>∃H b,e=.returned (.string (if b=true then⟨#[49]⟩ else⟨#[48]⟩))/\S H/\(b=true↔H≠[])/\Below w.heap.size w w':=by
 refine(callsIn_wide (n:=3)).1 ?_;refine callsIn_of_wp_marks func158 rfl trivial ?_ rfl;simp only[ntmps158,List.size_toArray,δ,List.length_nil,Nat.reduceAdd,Nat.reduceSub,Array.replicate_succ,Array.replicate_zero,List.push_toArray,List.append_toArray,List.nil_append,List.cons_append];gi_wp2;have t:Below w.heap.size w (w.alloc (.cells #[.string ⟨#[]⟩] 9)):=(φ _ w).alloc (χ _) _;obtain⟨g,j⟩:∃g:ByteArray->(Nat->Prop)->World->Prop,g=λs T W=>ah W w.heap.size #[.string s] 9/\¬T w.heap.size/\Below w.heap.size w W/\∀k,T k->w.heap.size<=k:=⟨_,rfl⟩;have F:∀s{T T':Nat->Prop}{W W':World},g s T W->Chg T W W'->(∀k,T' k->(T k\/W.heap.size<=k)/\k<W'.heap.size)->g s T' W':=by
  intro s T T' W W' h f d;rw[j]at h⊢;obtain⟨L,a,v,M⟩:=h;refine⟨L.chg f a,λc=>?_, ?_,λk c=>?_⟩
  .rcases(d _ c).1 with i|i
   .exact a i
   .have:=L.lt;omega
  .exact v.trans ⟨f.os,f.tape,f.output,f.size,λk c=>f.block k (ο c v.size) (λht=>by have:=M k ht;omega)⟩
  .rcases(d k c).1 with i|i
   .exact M k i
   .exact ς v.size i
 refine dP (gf:=gf) (lb:=lb) rfl R a0 ⟨t.size,λk c=>t.block k (y k c)⟩ (λk c=>ο (y k c) t.size) (λ_=>rfl)
  (λT a4 W=>g ⟨#[]⟩ T W/\a4=[]) (λu T a4 W=>u=.ret/\g ⟨#[49]⟩ T W/\∃m,S m/\m≠[])
  (λT T' a4 W W' h f d=>⟨F _ h.1 f d,h.2⟩) (λu T T' a4 W W' h f d=>⟨h.1,F _ h.2.1 f d,h.2.2⟩)
  ⟨by rw[j];exact⟨ah.new w _ _,λh=>h,t,λ_ h=>h.elim⟩,rfl⟩ ?round ?done ?stop
 case round =>
  rintro l T a4 x W a3 d⟨o,rfl⟩ Bv ⟨m,G,N⟩;gi_wp2;refine⟨aK.refl _ _, ?_⟩;intro P Z a2 hE2;have a:=F _ (T':=T) o Z (λk c=>⟨τ c,by rw[a2];exact(d k c).2⟩);rw[j]at a;have Q:=(a.1.cell 0).trans rfl;have f0:=a.1.frozen;gi_wp2;refine⟨⟨rfl, ?_,m,G,λe=>by rw[e]at N;simp at N⟩, ?_⟩
  .rw[j];refine⟨?_,a.2.1,a.2.2.1.setCell (p:=(z w.heap.size)) (χ _) _,a.2.2.2⟩;have:=a.1;unfold ah at this⊢;simp[World.setCell,μ,this]
  .refine⟨by simp[World.setCell],λk c=>Below.heap_setCell P (z w.heap.size) _ k (λe=>?_)⟩;subst e;rcases c with c|c
   .have:=y _ c;simp at this
   .exact a.2.1 c
 case done =>
  rintro D T H W U q X⟨o,rfl⟩ d A;have a:=o;rw[j]at a;have Q:=(a.1.cell 0).trans rfl;have f0:=a.1.frozen;have r:D≠w.heap.size:=λe=>a.2.1 (e▸q);gi_wp2;refine⟨Ω,.inl ⟨_,_,rfl,run_takeDeferred (b:=D) (ds:=[]) ?_, ?_⟩⟩
  .exact(Below.heap_setCell W (z w.heap.size) _ D r).trans A
  .have C:ah ((W.setCell (z w.heap.size) (.string ⟨#[48]⟩)).putObj D (.deferred none)) w.heap.size #[.string ⟨#[48]⟩] 9:=by refine(World.putObj_heap_other (λe=>r e.symm)).trans ?_;have:=a.1;unfold ah at this;simp[World.setCell,μ,this]
   have B:=(C.cell 0).trans rfl;have Y:Below w.heap.size w (W.setCell (z w.heap.size) (.string ⟨#[48]⟩)):=a.2.2.1.setCell (p:=(z w.heap.size)) (χ _) _;refine⟨.string ⟨#[48]⟩,by simp[results,Tryz.results158,go_sem,B],[],false,Ω,X,Ω, ?_⟩;exact Y.trans ⟨rfl,rfl,rfl,by simp[World.putObj],λk c=>World.putObj_heap_other (λe=>by have:=a.2.2.2 D q;omega)⟩
 case stop =>rintro D T u a4 W U q⟨rfl,o,m,G,a1⟩ d A;have a:=o;rw[j]at a;have r:D≠w.heap.size:=λe=>a.2.1 (e▸q);gi_wp2;refine⟨Ω,.inl ⟨_,_,rfl,run_takeDeferred A, ?_⟩⟩;have C:ah (W.putObj D (.deferred none)) w.heap.size #[.string ⟨#[49]⟩] 9:=(World.putObj_heap_other (λe=>r e.symm)).trans a.1;have B:=(C.cell 0).trans rfl;refine⟨.string ⟨#[49]⟩,by simp[results,Tryz.results158,go_sem,B],m,true,Ω,G,by simpa using a1, ?_⟩;exact a.2.2.1.trans ⟨rfl,rfl,rfl,by simp[World.putObj],λk c=>World.putObj_heap_other (λe=>by have:=a.2.2.2 D q;omega)⟩
end
section
open Go.Proofs.Tryz Go.RowKit Go.Maps Go.WideMaps Go.Shelf Go.Sort
attribute [local go_sem] Oper.semAt_some
def sumOf(xs:List dV):Int:=(xs.map dV.m).sum
theorem vF(xs:List dV)(x:dV):sumOf (xs++[x])=sumOf xs+x.m:=by simp[sumOf]
theorem CW:∀a:List dV,(∀x∈a,-1000000000<=x.m/\x.m<=1000000000)->-(1000000000*(a.length:Int))<=sumOf a/\sumOf a<=1000000000*(a.length:Int):=by
 intro a;induction a with
 | nil=>intro _;simp[sumOf]
 | cons x r ih =>
  intro h;have c:=ih (λy b=>h y (by simp[b]));have d:=h x Ω;have e:sumOf (x::r)=x.m+sumOf r:=by simp[sumOf]
  rw[e];simp only[δ];omega
theorem MX{w w':World}(h:∃k a,w'=grow (w.drewN k) a):Below w.heap.size w w':=by obtain⟨k,a,rfl⟩:=h;exact⟨rfl,rfl,rfl,by simp[World.drewN],λj b=>heap_grow_old _ _ b⟩
theorem MZ(w:World)(hG:Glob w)(gf:Nat)(lb:Array Value)(S:List dV->Prop)(E:Nat->Prop)(a2:Iter prog gf lb (λx:dV=>#[Value.agg #[.string x.p,.int .u8 x.a,.string x.v,.int .i64 x.m]]) S E w)(eg:∀G w,(callFunc gf G).run prog w=.ok (.enter gf G) w)(y:∀k,E k->k<w.heap.size)(hS:∀d,S d->d.length<=1000/\∀x∈d,-1000000000<=x.m/\x.m<=1000000000):Calls prog 160 #[.func (.func gf) #[] lb] w λq w'=>∃d,q=.returned (.string ⟨(Lib.itoa (sumOf d)).toArray⟩)/\S d/\Below w.heap.size w w':=by
 have Q:∀j b,S j->b <+: j->-1000000000000<=sumOf b/\sumOf b<=1000000000000:=λj b hy U=>by have u:=hS j hy;have c:=CW b (λx hx=>u.2 x (U.subset hx));have v:=U.length_le;omega
 refine(callsIn_wide (n:=3)).1 ?_;refine callsIn_of_wp_marks func160 rfl trivial ?_ rfl;simp only[ntmps160,List.size_toArray,δ,List.length_nil,Nat.reduceAdd,Nat.reduceSub,Array.replicate_succ,Array.replicate_zero,List.push_toArray,List.append_toArray,List.nil_append,List.cons_append];gi_wp2;have A:Below w.heap.size w (w.alloc (.cells #[.int .i64 0] 2)):=(φ _ w).alloc (χ _) _;obtain⟨m,r⟩:∃m:Int->(Nat->Prop)->World->Prop,m=λt T W=>ah W w.heap.size #[.int .i64 t] 2/\¬T w.heap.size/\Below w.heap.size w W/\∀k,T k->w.heap.size<=k:=⟨_,rfl⟩;have Z:∀t{T T':Nat->Prop}{W W':World},m t T W->Chg T W W'->(∀k,T' k->(T k\/W.heap.size<=k)/\k<W'.heap.size)->m t T' W':=by
  intro t T T' W W' h f e;rw[r]at h⊢;obtain⟨u,c,v,L⟩:=h;refine⟨u.chg f c,λa=>?_, ?_,λk a=>?_⟩
  .rcases(e _ a).1 with i|i
   .exact c i
   .have:=u.lt;omega
  .exact v.trans ⟨f.os,f.tape,f.output,f.size,λk a=>f.block k (ο a v.size) (λht=>by have:=L k ht;omega)⟩
  .rcases(e k a).1 with i|i
   .exact L k i
   .exact ς v.size i
 refine dP (gf:=gf) (lb:=lb) rfl eg a2 ⟨A.size,λk a=>A.block k (y k a)⟩ (λk a=>ο (y k a) A.size) (λ_=>rfl)
  (λT b W=>m (sumOf b) T W) (λH T b W=>False)
  (λT T' b W W' h f e=>Z _ h f e) (λH T T' b W W' h f e=>h)
  (by rw[r];exact⟨ah.new w _ _,λh=>h,A,λ_ h=>h.elim⟩) ?round ?done ?stop
 case round =>
  rintro l T b x W a7 e g Bv⟨j,a6,a3⟩;have s:=Q j _ a6 a3;rw[vF]at s;have a4:w.heap.size<=W.heap.size:=by rw[r]at g;exact g.2.2.1.size
  obtain⟨xn,xp,xa,xv,xm⟩:=x;gi_wp2;refine⟨⟨Ω,λk a=>?_⟩, ?_⟩
  .exact((φ _ W).alloc (χ _) _).block k (a.elim (λh=>ο (y k h) a4) (λh=>(e k h).2))
  intro o B X hE2;have a1:∀k,T k->k<o.heap.size:=λk a=>by rw[X];have:=(e k a).2;simp;omega
  have c:=Z _ (T':=T) g ((Chg.of_below ((φ _ W).alloc (χ _) _)).trans B) (λk a=>⟨τ a,a1 k a⟩);rw[r]at c;have kd:ah o W.heap.size #[.string xp,.int .u8 xa,.string xv,.int .i64 xm] 86:=(ah.new W _ _).chg B (λa=>by have:=(e _ a).2;omega);have K:=(c.1.cell 0).trans rfl;have f0:=c.1.frozen;have d3:=(kd.cell 3).trans rfl;have a5:IntKind.i64.wrap (sumOf b+xm)=sumOf b+xm:=wrap_in _ (by first|omega|(simp only at s;omega)) (by first|omega|(simp only at s;omega));have a8:J<|ah o w.heap.size #[.int .i64 (sumOf b)] 2/\¬T w.heap.size/\Below w.heap.size w o/\∀k,T k->w.heap.size<=k:=c;have Y:=vF b ⟨xn,xp,xa,xv,xm⟩;try simp only at Y
  try simp only at s
  generalize sumOf b=sp at *;clear c kd B X hE2 g Bv;gi_wp2;refine⟨?_, ?_⟩
  .refine(show _/\_/\_/\_ from⟨?_,a8.o.2.1,a8.o.2.2.1.setCell (p:=(z w.heap.size)) (χ _) _,a8.o.2.2.2⟩);rw[Y];have:=a8.o.1;unfold ah at this⊢;simp[World.setCell,μ,this,a5]
  .refine⟨by simp[World.setCell],λk a=>Below.heap_setCell o (z w.heap.size) _ k (λq=>?_)⟩;subst q;rcases a with a|a
   .have:=y _ a;simp at this
   .exact a8.o.2.1 a
 case done =>rintro D T d W hD sG N g e M;have c:=g;rw[r]at c;have K:=(c.1.cell 0).trans rfl;have s:=Q d d N (List.prefix_refl _);have F:J<|_:=Tryz.strconv_FormatInt_10 (sumOf d) V V W (hG.mono c.2.2.1).tab;have C:J<|Below w.heap.size w W:=c.2.2.1;clear c g;gi_wp2_with fail;refine⟨trivial,(callsIn_wide.2 F.o).mono ?_⟩;rintro q w5⟨rfl,R⟩;have P:=MX R;have a0:w5.heap[D]?=some (.deferred (some [])):=(P.block D (Array.getElem?_eq_some_iff.1 M).1).trans M;clear R F K;gi_wp2_with fail;refine⟨Ω,.inl ⟨_,_,rfl,run_takeDeferred a0, ?_⟩⟩;refine⟨_,results_tmp rfl _ _ _,d,rfl,N, ?_⟩;exact(C.o.trans (P.mono C.o.size)).trans ⟨rfl,rfl,rfl,by simp[World.putObj],λk a=>World.putObj_heap_other (λq=>by simp at hD;omega)⟩
 case stop =>rintro D T H b W _ _ h;exact h.elim
end
section
open Go.Proofs.Tryz Go.RowKit Go.Maps Go.WideMaps Go.Shelf Go.Sort
attribute [local go_sem] Oper.semAt_some
def aT(p:ByteArray)(xs:List dV):List ByteArray:=(xs.filter (λx=>(toL p++[47]).isPrefixOf (toL x.p))).map (λx=>⟨(dX (toL p) (toL x.p)).toArray⟩)
theorem zM(p:ByteArray)(xs:List dV)(x:dV):aT p (xs++[x])=aT p xs++(if(toL p++[47]).isPrefixOf (toL x.p)=true then [⟨(dX (toL p) (toL x.p)).toArray⟩]else []):=by unfold aT;rw[List.filter_append,List.map_append];congr 1;simp only[List.filter_cons,List.filter_nil];split<;>simp
theorem rJ(p:ByteArray)(xs:List dV):(aT p xs).length<=xs.length:=by unfold aT;rw[List.length_map];exact List.length_filter_le _ _
theorem Jp(w:World)(m:Int)(L:w.cell? (z 0)=some (.int .i64 m))(p:ByteArray)(af:p.size<=1048576)(gf:Nat)(lb:Array Value)(S:List dV->Prop)(E:Nat->Prop)(aa:Iter prog gf lb (λx:dV=>#[Value.agg #[.string x.p,.int .u8 x.a,.string x.v,.int .i64 x.m]]) S E w)(eg:∀Z w,(callFunc gf Z).run prog w=.ok (.enter gf Z) w)(o:∀k,E k->k<w.heap.size)(hS:∀aw,S aw->aw.length<=1000/\∀x∈aw,x.p.size<=1048576):Calls prog 157 #[.string p,.func (.func gf) #[] lb] w λb1 w'=>∃v aw,b1=.returned v/\S aw/\w'.ownsRow w.heap.size 9 1 v (aT p aw).length (iq (aT p aw))/\Below w.heap.size w w':=by
 obtain⟨i0,hi,ag,ai,aj⟩:=info_parts Tryz.infoStr;have a8:0<w.heap.size:=block_lt_of_cell L;have Sm:J<|∀P,Below w.heap.size w P->P.cell? (z 0)=some (.int .i64 m):=λP hx=>(hx.cell (p:=(z 0)) a8).trans L;clear L;refine(callsIn_wide (n:=3)).1 ?_;refine callsIn_of_wp_marks func157 rfl trivial ?_ rfl;simp only[ntmps157,List.size_toArray,δ,List.length_nil,Nat.reduceAdd,Nat.reduceSub,Array.replicate_succ,Array.replicate_zero,List.push_toArray,List.append_toArray,List.nil_append,List.cons_append];gi_wp2;have A:Below w.heap.size w ((w.alloc (.cells #[.string p] 83)).alloc (.cells #[.slice none 0 0] 141)):=((φ _ w).alloc (χ _) _).alloc Ω _;have kp:ah ((w.alloc (.cells #[.string p] 83)).alloc (.cells #[.slice none 0 0] 141)) w.heap.size #[.string p] 83:=(ah.new w _ _).alloc _;have kf:ah ((w.alloc (.cells #[.string p] 83)).alloc (.cells #[.slice none 0 0] 141)) (w.heap.size+1) #[.slice none 0 0] 141:=by have:=ah.new (w.alloc (.cells #[.string p] 83)) #[.slice none 0 0] 141;rwa [ϊ]at this
 generalize ((w.alloc (.cells #[.string p] 83)).alloc (.cells #[.slice none 0 0] 141))=w3 at *;have av:w.heap.size+1<w3.heap.size:=kf.lt;refine dP (gf:=gf) (lb:=lb) rfl eg aa ⟨A.size,λk a=>A.block k (o k a)⟩ (λk a=>ο (o k a) A.size) (λ_=>rfl)
  (λT b W=>Coll w (w.heap.size+1) 141 9 1 (iq (aT p b)) (aT p b).length T W/\ah W w.heap.size #[.string p] 83/\¬T w.heap.size) (λ_ _ _ _=>False)
  (λT T' b W W' h hc f=>⟨h.1.je hc f,h.2.1.chg hc h.2.2,λa=>by rcases(f _ a).1 with e|e;exact h.2.2 e;have:=h.2.1.lt;omega⟩) (λ_ _ _ _ _ _ h _ _=>h)
  ⟨⟨_,kf,World.ownsRow_nil _ _ _ _,λh=>h,λ_ _ h=>h,A,λ_ h=>h.elim,V⟩,kp,λh=>h⟩ ?round ?done ?stop
 case round =>
  rintro l T b x W an f⟨⟨v,g⟩,B,r⟩ Bv ⟨ys,a6,a2⟩;have a5:x.p.size<=1048576:=(hS ys a6).2 x (a2.subset Ω);have ar:(aT p b).length+1<=1001:=by have:=(hS ys a6).1;have:=a2.length_le;have:=rJ p b;simp at *;omega
  have az:J<|aT p (b++[x])=aT p b++(if(toL p++[47]).isPrefixOf (toL x.p)=true then [⟨(dX (toL p) (toL x.p)).toArray⟩]else []):=zM p b x;obtain⟨xn,q,xa,xv,xm⟩:=x;simp only at a5 az;gi_wp2;refine⟨⟨Ω,λk a=>?_⟩, ?_⟩
  .exact((φ _ W).alloc (χ _) _).block k (a.elim (λh=>ο (o k h) g.below.size) (λh=>(f k h).2))
  intro W2 H a3 hE2;have G:∀k,T k->k<W2.heap.size:=λk a=>by rw[a3];have:=(f k a).2;simp;omega
  have K:Chg T W W2:=(Chg.of_below ((φ W.heap.size W).alloc (χ _) _)).trans H;have F:=g.je K (λk a=>⟨τ a,G k a⟩);have D:=B.chg K r;have ke:ah W2 W.heap.size #[.string q,.int .u8 xa,.string xv,.int .i64 xm] 86:=(ah.new W _ _).chg H (λa=>by have:=(f _ a).2;omega);have p0:=(D.cell 0).trans rfl;have b0:=(ke.cell 0).trans rfl;have C:J<|fC w (w.heap.size+1) 141 9 1 (iq (aT p b)) (aT p b).length T W2 v:=F;have U:J<|ah W2 w.heap.size #[.string p] 83:=D;have wE:J<|_:=Ba p q m W2 af a5 (Sm.o _ F.below);clear g F B D ke K H a3 hE2 Bv;gi_wp2_with fail;refine⟨trivial,CallsIn.inRound l ((callsIn_wide.2 wE.o).mono ?_)⟩;rintro b1 d⟨t,rfl,N,_,i⟩;have Y:∀k,T k->k<d.heap.size:=λk a=>ο (G k a) i.size;have ax:J<|fC w (w.heap.size+1) 141 9 1 (iq (aT p b)) (aT p b).length T d v:=C.o.je (Chg.of_below i) (λk a=>⟨τ a,Y k a⟩);have s:J<|ah d w.heap.size #[.string p] 83:=U.o.below i;have X:J<|aK (λk=>E k\/T k) W2 d:=⟨i.size,λk a=>i.block k (a.elim (λh=>ο (o k h) C.o.below.size) (G k))⟩;have c0:=ax.o.bx.cell;have ao:w.heap.size<=d.heap.size:=ax.o.below.size;clear i wE p0 b0 C U;cases hpp:(toL p++[47]).isPrefixOf (toL q) with
  | false =>rw[hpp]at az;gi_wp2_with fail;refine⟨⟨?_,s.o,r⟩,X.o⟩;have e:=az.o;simp only[Bool.false_eq_true,if_false,List.append_nil]at e;rw[e];exact⟨v,ax.o⟩
  | true =>
   rw[hpp]at az N;have a4:t=⟨(dX (toL p) (toL q)).toArray⟩:=by rw[<- N rfl,uH]
   have ae:J<|(aT p b).length+1<=maxLen:=by unfold J maxLen;omega
   have ad:J<|((aT p b).length+1)*16<=140737488355328:=ω V
   have EM:J<|∀j u,([.string t]:List Value)[j]?=some u->(d.alloc (.cells #[.string t] 9)).cell? (((z d.heap.size):Addr).add j)=some u:=cell_one_new d _ _;have a7:J<|t=⟨(dX (toL p) (toL q)).toArray⟩:=a4;clear N a4;gi_wp2_with (first|(gi_at_builtin;refine wpListIn_append_own_at _ rfl (.tmp 19) (.tmp 21) 141 rfl w.heap.size 9 i0 (.string ⟨#[]⟩) 1 16 underlying141 hi ag ai aj rfl Ψ v _ _ rfl (ax.o.row.alloc _) (z d.heap.size) 1 1 [.string t] rfl rfl EM.o (by simp[Value.oneCell']) ae.o ad.o Θ ?_;intro v' w5 a1 a0 _ ac;have y:=ax.o.app (E:=E) Ψ a1 a0 ac Y o;obtain⟨g',ak,rfl⟩:=ownsRow_succ a1;have ap:=y.1.cell;have aq:=y.1.frozen;have ab:ah w5 w.heap.size #[.string p] 83:=(a0.block w.heap.size (by simp;have:=s.o.lt;omega) (λb1=>ownsRow_ne ax.o.row (λal fz e2=>by rw[show d.heap[w.heap.size]?=_ from s.o]at e2;cases e2) b1.symm)).trans (s.o.alloc _)));refine⟨⟨?_, ?_,r⟩,X.o.trans y.2.2⟩
   .have e:=az.o;simp only[if_true]at e;rw[e,<- a7.o,vC,ρ];exact⟨_,y.2.1⟩
   .exact ab.chg (M:=λk=>k=w.heap.size+1) ((Chg.refl (λk=>k=w.heap.size+1) w5).setCell (p:=(z (w.heap.size+1))) rfl _) V
 case done =>
  rintro Q T aw W hD sG a9⟨⟨v,g⟩,B,r⟩ f hK;have c0:=g.bx.cell;have R:J<|fC w (w.heap.size+1) 141 9 1 (iq (aT p aw)) (aT p aw).length T W v:=g;clear g B;gi_wp2;refine⟨Ω,.inl ⟨_,_,rfl,run_takeDeferred hK, ?_⟩⟩;refine⟨_,results_tmp rfl _ _ _,v,aw,rfl,a9, ?_, ?_⟩
  .exact ownsRow_putObj R.o.row _ hK rfl
  .exact(R.o.je (T':=T) (bJ W Q (.deferred none) sG) (λk a=>⟨τ a,by rw[aV];exact(f k a).2⟩)).below
 case stop =>rintro Q T c b W _ _ h;exact h.elim
end
section
open Go.Proofs.Tryz Go.RowKit Go.Maps Go.WideMaps Go.Shelf Go.Sort Go.Lib
def iG(l:List Thk.Bs):Thk.Bs:=Lib.join (Lib.compact (l.mergeSort λx y=>decide (x<=y))) [44]
theorem wX{w:World}{base g c:Nat}{l:List ByteArray}(h:w.ownsRow base 9 1 (.slice (some (z g)) l.length c) l.length (iq l)):Holds encStr w g 0 (l.map toL).toArray:=by
 intro j a;simp at a;have e:w.frozen? (O g (0+j))=false:=by
  obtain⟨_,⟨d,_⟩|⟨m,i,k,b,_,f,_⟩⟩:=h
  .cases d
  .simp only[Value.slice.injEq,Option.some.injEq,Addr.mk.injEq,true_and,and_true]at b;obtain⟨rfl,rfl⟩:=b;simp[World.frozen?,f]
 refine⟨?_,e⟩;rw[Nat.zero_add,h.cellAt j V];simp[iq,a,encStr,toL]
theorem zN(B:Nat):∀r:List (List UInt8),(∀x∈r,x.length<=B)->(Lib.joinTail [44] r).length<=r.length*(B+1):=by
 intro r;induction r with
 | nil=>intro _;simp[Lib.joinTail]
 | cons x r ih =>
  intro h;have b:=ih (λy a=>h y (by simp[a]));have c:=h x Ω;have e:Lib.joinTail [44] (x::r)=[44]++x++Lib.joinTail [44] r:=by simp[Lib.joinTail]
  rw[e];simp only[ρ,δ,List.length_nil];rw[Nat.add_mul];omega
theorem Na(B:Nat)(xs:List (List UInt8))(h:∀x∈xs,x.length<=B):(Lib.join xs [44]).length<=xs.length*(B+1):=by
 cases xs with
 | nil=>simp[Lib.join_nil]
 | cons x r =>rw[Lib.join_cons,ρ];have b:=zN B r (λy a=>h y (by simp[a]));have c:=h x Ω;simp only[δ];rw[Nat.add_mul];omega
theorem CX{zs:List (List UInt8)}{x:List UInt8}(h:x∈Lib.compact zs):x∈zs:=by
 unfold Lib.compact Lib.compactUpTo at h;obtain⟨j,a,rfl⟩:=ι.1 h;have b:j<zs.length:=by have:=(List.mem_filter.1 a).1;simpa using this
 simp[b]
theorem jw(a:List (List UInt8)):(Lib.compact a).length<=a.length:=by unfold Lib.compact Lib.compactUpTo;rw[List.length_map];exact ς (List.length_filter_le _ _) Ω
theorem vG{a:Type} [Inhabited a] (f:a->Value) (w:World) (q c i:Nat) (d:Array a) (j:Array Obj):Chg (λb=>b=c) w (grow (putRow f (Sort.ahead w q) c i d) j):=by refine⟨rfl,rfl,rfl,by simp[putRow,mapBlock,Sort.ahead],λb g h=>?_⟩;rw[heap_grow_old _ _ (by simp[putRow,mapBlock,Sort.ahead];exact g)];simp only[putRow,mapBlock,Sort.ahead];rw[μ,ύ (λe=>h (Eq.symm e))]
theorem CY(w:World)(base:Nat)(v:Value)(l:List ByteArray)(h:w.ownsRow base 9 1 v l.length (iq l))(hl:l.length<=1000)(hs:∀s∈l,s.size<=1000):Calls prog 156 #[v] w λe w'=>e=.returned (.string ⟨(iG (l.map toL)).toArray⟩)/\Chg (λk=>v.ownBlock=some k) w w':=by
 have i:=h;obtain⟨m,⟨rfl,hn⟩|⟨g,d,a2,rfl,hg,hh,a5,_⟩⟩:=h
 .have a0:l=[]:=List.eq_nil_of_length_eq_zero hn;subst a0;have o:J<|_:=Tryz.slices_Sort_string_none none 0 w;have p:J<|_:=Tryz.slices_Compact_string_empty none 0 w;have q:J<|_:=Tryz.strings_Join_none none 0 ⟨#[44]⟩ w;have r:J<|_:=ng ⟨#[]⟩ w Ψ;clear i;go_enter func156,ntmps156;go_wp2_with fail;refine ψ o.o ?_;rintro e a⟨rfl,rfl⟩;go_wp2_with fail;refine ψ p.o ?_;rintro e b⟨rfl,rfl⟩;go_wp2_with fail;refine ψ q.o ?_;rintro e c⟨rfl,rfl⟩;go_wp2_with fail;refine ψ r.o ?_;rintro e w4⟨rfl,W⟩;have Z:iG (List.map toL [])=[]:=by unfold iG;simp[Lib.compact,Lib.compactUpTo,Lib.join_nil]
  go_wp2;go_ret;exact⟨by rw[Z];rfl,Chg.of_below W⟩
 .have a6:g<w.heap.size:=(i.lt g rfl).2;have u:=wX i;obtain⟨zs,n⟩:∃zs,zs=(l.map toL).mergeSort (λx y=>decide (x<=y)):=⟨_,rfl⟩;have F:zs.Perm (l.map toL):=by rw[n];exact List.mergeSort_perm _ _
  have Q:zs.length=l.length:=by rw[F.length_eq];simp
  have P:∀x∈zs,x.length<=1000:=λx m=>by obtain⟨s,a1,rfl⟩:=ι.1 (F.mem_iff.1 m);have:=hs s a1;show s.data.toList.length<=1000;simpa using this
  have E:Lib.join (Lib.compact zs) [44]=iG (l.map toL):=by rw[n];(first|done|rfl)
  have D:(Lib.join (Lib.compact zs) [44]).length<=1001000:=by have h1:=Na 1000 (Lib.compact zs) (λx m=>P x (CX m));have h2:=jw zs;have h3:(Lib.compact zs).length*1001<=1000*1001:=Nat.mul_le_mul_right _ V;omega
  have o:J<|Calls prog 214 #[.slice (some (z g)) l.length d] w λe w'=>e=.returned (.tuple #[])/\Holds encStr w' g 0 zs.toArray/\Chg (λk=>k=g) w w':=by have:=Tryz.slices_Sort_string g 0 d (l.map toL) w u a6 Θ;rw[List.length_map]at this;refine ψ this ?_;rintro e w'⟨rfl,a7,os,rfl⟩;rw[<- n];refine⟨rfl,holds_grow _ _ _ _ _ _ (by simp[putRow,mapBlock,Sort.ahead];exact a6) (holds_putRow encStr (Sort.ahead w a7) g 0 (l.map toL).toArray zs.toArray u (by simp[Q])),vG encStr w a7 g 0 _ os⟩
  have p:J<|∀a,Holds encStr a g 0 zs.toArray->g<a.heap.size->Calls prog 216 #[.slice (some (z g)) l.length d] a λe w'=>e=.returned (.slice (some (z g)) (Lib.compact zs).length d)/\(∀(j:Nat)x,((Lib.compact zs).map (λl=>(⟨l.toArray⟩:ByteArray)))[j]?=some x->w'.cell? (O g (0+j))=some (.string x))/\Chg (λk=>k=g) a w':=λa H B=>by
   have:=Tryz.slices_Compact_string g 0 d zs a H V V;rw[Q]at this;refine ψ this ?_;rintro e w'⟨rfl,S,rfl⟩;refine⟨rfl,λj x f=>?_, ?_⟩
   .have t:j<(Lib.compact zs).length:=by
     rcases Nat.lt_or_ge j (Lib.compact zs).length with h|h
     .exact h
     .rw[List.getElem?_eq_none (by simpa using h)]at f;cases f
    have a3:=jw zs;have A:=cell?_putRow encStr (Sort.ahead a S) g 0 zs.toArray (Lib.compact zs++List.replicate (l.length-(Lib.compact zs).length) []).toArray H Θ j Θ;rw[A];rw[List.getElem?_map,σ t]at f;simp at f;subst f;have a4:j<(Lib.compact zs++List.replicate (l.length-(Lib.compact zs).length) ([]:List UInt8)).length:=Θ
    simp only[List.getElem!_toArray,List.getElem!_eq_getElem?_getD];rw[ε t,σ t];rfl
   .have:=vG encStr a S g 0 (Lib.compact zs++List.replicate (l.length-(Lib.compact zs).length) []).toArray #[];rw[grow_empty]at this;exact this
  have q:J<|∀b,(∀(j:Nat)x,((Lib.compact zs).map (λl=>(⟨l.toArray⟩:ByteArray)))[j]?=some x->b.cell? (O g (0+j))=some (.string x))->g<b.heap.size->Calls prog 215 #[.slice (some (z g)) (Lib.compact zs).length d,.string ⟨#[44]⟩] b λe w'=>e=.returned (.string ⟨(iG (l.map toL)).toArray⟩)/\Below b.heap.size b w':=λb A C=>by
   have G:((Lib.compact zs).map (λl=>(⟨l.toArray⟩:ByteArray))).map (·.data.toList)=Lib.compact zs:=by rw[List.map_map];exact(List.map_congr_left (λx _=>Ω)).trans (List.map_id _)
   have:=Tryz.strings_Join g 0 d ((Lib.compact zs).map (λl=>(⟨l.toArray⟩:ByteArray))) ⟨#[44]⟩ b A C (by have:=jw zs;simp;omega) (by have:=jw zs;simp;omega) (by rw[G];exact ς D V);rw[G,List.length_map]at this;rw[<- E];exact this
  have r:J<|∀c,Calls prog 56 #[.string ⟨(iG (l.map toL)).toArray⟩] c λe w'=>e=.returned (.string ⟨(iG (l.map toL)).toArray⟩)/\Below c.heap.size c w':=λc=>ng _ c (by rw[E]at D;show(iG (l.map toL)).toArray.size<=_;simp;omega);generalize iG (l.map toL)=R at *;clear i u hh E D P F n;go_enter func156,ntmps156;go_wp2_with fail;refine ψ o.o ?_;rintro e a⟨rfl,M,K⟩;have T:J<|Holds encStr a g 0 zs.toArray:=M;have B:g<a.heap.size:=ο a6 K.size;clear M;go_wp2_with fail;refine ψ (p.o a T.o B) ?_;rintro e b⟨rfl,N,L⟩;have U:J<|_:=N;have C:g<b.heap.size:=ο B L.size;clear N;go_wp2_with fail;refine ψ (q.o b U.o C) ?_;rintro e c⟨rfl,X⟩;go_wp2_with fail;refine ψ (r.o c) ?_;rintro e w4⟨rfl,Y⟩;go_wp2;go_ret;exact⟨rfl,(((K.trans L).below X).below Y).mono (λk _ hk=>by subst hk;rfl)⟩
end
section
open Go.Proofs.Tryz Go.RowKit Go.Maps Go.WideMaps Go.Shelf
def kP(p:Thk.Bs)(xs:List dV):Thk.Bs :=
 if(Thk.kindOf p).toNat=109 then iG ((aT ⟨p.toArray⟩ xs).map toL)
 else if(Thk.kindOf p).toNat=102 then(if nZ ⟨p.toArray⟩ xs≠[]then [49]else [48])
 else if(Thk.kindOf p).toNat=99 then Lib.itoa (sumOf (nZ ⟨p.toArray⟩ xs))
 else iG (((nZ ⟨p.toArray⟩ xs).map dV.v).map toL)
theorem CZ{c:Type}{P:Program}{gf:Nat}{lb:Array Value}{encs:c->Array Value}{S:List c->Prop}{E:Nat->Prop}{w w':World}(h:Iter P gf lb encs S E w)(f:∀k,E k->k<w.heap.size)(b:Below w.heap.size w w'):Iter P gf lb encs S E w':=by intro l d e W a;exact h l d e W (aK.trans ⟨b.size,λk a=>b.block k (f k a)⟩ a)
structure oI(S:List dV->Prop):Prop where
 len:∀xs,S xs->xs.length<=1000
 ok:∀xs,S xs->∀x∈xs,x.p.size<=1000/\x.v.size<=1000/\-1000000000<=x.m/\x.m<=1000000000
theorem pV(c:UInt8):∀(l a:Thk.Bs),((Thk.aJ c a l).headD []).length<=a.length+l.length:=by
 intro l;induction l with
 | nil=>intro a;simp[Thk.aJ]
 | cons x r ih =>
  intro a;unfold Thk.aJ;split
  .simp
  .have:=ih (a++[x]);simp at this⊢;omega
theorem C9(p l:Thk.Bs):(dX p l).length<=l.length:=by unfold dX Thk.split;have:=pV 47 (l.drop (p.length+1)) [];simp at this⊢;omega
theorem zO(p:ByteArray)(xs:List dV)(h:∀x∈xs,x.p.size<=1000):∀s∈aT p xs,s.size<=1000:=by
 intro s a;unfold aT at a;obtain⟨x,b,rfl⟩:=ι.1 a;have c:=h x (List.mem_filter.1 b).1;have d:=C9 (toL p) (toL x.p);have e:(toL x.p).length=x.p.size:=by show x.p.data.toList.length=_;simp
 show(dX (toL p) (toL x.p)).toArray.size<=1000;simp;omega
theorem TV(w:World)(Y:Glob w)(p:ByteArray)(a4:p.size<=1048576)(a5:Thk.path (toL p)=true)(gf:Nat)(lb:Array Value)(S:List dV->Prop)(E:Nat->Prop)(Z:Iter prog gf lb (λx:dV=>#[Value.agg #[.string x.p,.int .u8 x.a,.string x.v,.int .i64 x.m]]) S E w)(X:∀M w,(callFunc gf M).run prog w=.ok (.enter gf M) w)(G:∀k,E k->k<w.heap.size)(H:oI S):Calls prog 95 #[.string p,.func (.func gf) #[] lb] w λe w'=>∃a,S a/\e=.returned (.string ⟨(kP (toL p) a).toArray⟩)/\Below w.heap.size w w':=by
 have a3:(⟨(toL p).toArray⟩:ByteArray)=p:=uH p;obtain⟨m,hm⟩:=Y.len;have N:J<|∀aa,Below w.heap.size w aa->Calls prog 157 #[.string p,.func (.func gf) #[] lb] aa λe w'=>∃B a,e=.returned B/\S a/\w'.ownsRow aa.heap.size 9 1 B (aT p a).length (iq (aT p a))/\Below aa.heap.size aa w':=λaa j=>by exact Jp aa m ((j.cell (p:=(z 0)) (block_lt_of_cell hm)).trans hm) p a4 gf lb S E (CZ Z G j) X (λk i=>ο (G k i) j.size) (λa c=>⟨H.len a c,λx o=>by have:=H.ok a c x o;omega⟩)
 have F:J<|∀aa,Below w.heap.size w aa->∀P,P=(aa.alloc (.cells #[.string p] 83)).alloc (.cells #[.func (.func gf) #[] lb] 145)->Iter prog 218 #[.pointer (some (z (aa.heap.size+1))),.pointer (some (z aa.heap.size))] (λx:dV=>#[Value.agg #[.string x.p,.int .u8 x.a,.string x.v,.int .i64 x.m]]) (MV S p) (λk=>k=aa.heap.size+1\/k=aa.heap.size\/E k) P/\(∀k,(k=aa.heap.size+1\/k=aa.heap.size\/E k)->k<P.heap.size)/\Below aa.heap.size aa P:=λaa j P q=>by
  subst q;have d:Below aa.heap.size aa ((aa.alloc (.cells #[.string p] 83)).alloc (.cells #[.func (.func gf) #[] lb] 145)):=((φ _ aa).alloc (χ _) _).alloc Ω _;have kf:=ah.new (aa.alloc (.cells #[.string p] 83)) #[.func (.func gf) #[] lb] 145;rw[ϊ]at kf;refine⟨FM _ (aa.heap.size+1) aa.heap.size p gf lb S E (CZ Z G (j.trans (d.mono j.size))) X (λk i=>ο (ο (G k i) j.size) d.size) kf ((ah.new aa _ _).alloc _), ?_,d⟩;rintro k (rfl|rfl|i)
  .simp
  .simp;omega
  .exact ο (ο (G k i) j.size) d.size
 have U:J<|_:=A8 p w a4 a5;have L:J<|oI (MV S p):=by
  refine⟨λa c=>?_,λa c x o=>?_⟩
  .obtain⟨r,q,rfl⟩:=c;exact ς (List.length_filter_le _ _) (H.len r q)
  .obtain⟨r,q,rfl⟩:=c;exact H.ok r q x (List.mem_filter.1 o).1
 have HS:J<|oI S:=H;have HG:J<|Glob w:=Y;have a2:∀M w,(callFunc 218 M).run prog w=.ok (.enter 218 M) w:=enters_of func218 (by kernel_rfl) rfl;have W:J<|_:=a2;obtain⟨n,a0⟩:∃n,n=(Thk.kindOf (toL p)).toNat:=⟨_,rfl⟩;have v:J<|∀a,kP (toL p) a=if n=109 then iG ((aT p a).map toL)else if n=102 then(if nZ p a≠[]then [49]else [48])else if n=99 then Lib.itoa (sumOf (nZ p a))else iG (((nZ p a).map dV.v).map toL):=λa=>by unfold kP;rw[a3,a0]
 rw[<- a0]at U;clear Z X G H Y hm a3 a2 a0;go_enter func95,ntmps95;go_wp2_with fail;refine ψ U.o ?_;rintro e g⟨rfl,rfl⟩;clear U;by_cases R:n=109
 .subst R;have f:=v.o;simp only[if_true]at f;have t:J<|_:=f;clear f v;go_wp2_with fail;refine ψ (N.o _ (φ _ _)) ?_;rintro e ab⟨B,a,rfl,c,D,d⟩;have K:J<|_:=CY ab _ B (aT p a) D (ς (rJ p a) (HS.o.len a c)) (zO p a (λx o=>(HS.o.ok a c x o).1));have a1:∀k,B.ownBlock=some k->g.heap.size<=k:=λk i=>(D.lt k i).1;clear D N F;go_wp2_with fail;refine ψ K.o ?_;rintro e w3⟨rfl,ac⟩;clear K;go_wp2_with fail;go_ret;refine⟨a,c,by rw[t.o a];rfl,d.trans ⟨ac.os,ac.tape,ac.output,ac.size,λk i=>ac.block k (ο i d.size) (λe=>by have:=a1 k e;omega)⟩⟩
 .have a7:((n:Int)==109)=false:=ό.2 V;by_cases k2:n=102
  .subst k2;have f:=v.o;simp only[R,if_false,if_true]at f;have t:J<|∀a,kP (toL p) a=if nZ p a≠[]then [49]else [48]:=f;clear f v;go_wp2_with fail;refine ψ (vw g p gf lb) ?_;rintro e ab⟨rfl,A⟩;obtain⟨ad,y,d⟩:=F.o g (φ _ _) ab A;have u:J<|_:=MW ab _ _ _ _ ad W.o y;have l:J<|Below g.heap.size g ab:=d;clear ad y d A F N;go_wp2_with fail;refine ψ u.o ?_;rintro e w3⟨r,b,rfl,⟨a,c,rfl⟩,j,C⟩;have Q:J<|b=true↔nZ p a≠[]:=j;clear j u;cases b with
   | true =>have T:J<|nZ p a≠[]:=Q.o.1 rfl;clear Q;go_wp2_with fail;go_ret;exact⟨a,c,by rw[t.o a,ώ T.o];rfl,l.o.trans (C.mono l.o.size)⟩
   | false =>
    have T:J<|¬(nZ p a≠[]):=λh=>by have:=Q.o.2 h;cases this
    clear Q;go_wp2_with fail;go_ret;exact⟨a,c,by rw[t.o a,ύ T.o];rfl,l.o.trans (C.mono l.o.size)⟩
  .have a8:((n:Int)==102)=false:=ό.2 V;by_cases k3:n=99
   .subst k3;have f:=v.o;simp only[R,k2,if_false,if_true]at f;have t:J<|∀a,kP (toL p) a=Lib.itoa (sumOf (nZ p a)):=f;clear f v;go_wp2_with fail;refine ψ (vw g p gf lb) ?_;rintro e ab⟨rfl,A⟩;obtain⟨ad,y,d⟩:=F.o g (φ _ _) ab A;have u:J<|_:=MZ ab (HG.o.mono d) _ _ _ _ ad W.o y (λa c=>⟨L.o.len a c,λx o=>by have:=L.o.ok a c x o;omega⟩);have l:J<|Below g.heap.size g ab:=d;clear ad y d A F N;go_wp2_with fail;refine ψ u.o ?_;rintro e w3⟨r,rfl,⟨a,c,rfl⟩,C⟩;clear u;go_wp2_with fail;go_ret;exact⟨a,c,by rw[t.o a];rfl,l.o.trans (C.mono l.o.size)⟩
   .have a9:((n:Int)==99)=false:=ό.2 V;have f:=v.o;simp only[R,k2,k3,if_false]at f;have t:J<|∀a,kP (toL p) a=iG (((nZ p a).map dV.v).map toL):=f;clear f v;go_wp2_with fail;refine ψ (vw g p gf lb) ?_;rintro e ab⟨rfl,A⟩;obtain⟨ad,y,d⟩:=F.o g (φ _ _) ab A;have u:J<|_:=zL ab _ _ _ _ ad W.o y L.o.len;have l:J<|Below g.heap.size g ab:=d;clear ad y d A F N;go_wp2_with fail;refine ψ u.o ?_;rintro e w3⟨B,r,rfl,q,D,C⟩;have K:J<|_:=CY w3 _ B (r.map dV.v) (by rw[List.length_map];exact D) (by rw[List.length_map];exact L.o.len r q) (λs hs=>by obtain⟨x,o,rfl⟩:=ι.1 hs;exact(L.o.ok r q x o).2.1);have a1:∀k,B.ownBlock=some k->ab.heap.size<=k:=λk i=>(D.lt k i).1;obtain⟨a,c,rfl⟩:=q;have Df:Below g.heap.size g w3:=l.o.trans (C.mono l.o.size);have a6:=l.o.size;clear D u C;go_wp2_with fail;refine ψ K.o ?_;rintro e w4⟨rfl,ac⟩;clear K;go_wp2_with fail;go_ret;refine⟨a,c,by rw[t.o a,List.map_map];rfl,Df.trans ⟨ac.os,ac.tape,ac.output,ac.size,λk i=>ac.block k (ο i Df.size) (λe=>by have:=a1 k e;omega)⟩⟩
theorem Dh(w:World)(k:Glob w)(rb a:Nat)(io co lo:Option Nat)(K:Nat->Nat)(C:Nat->Option Thk.Ch)(l:mD w rb a io co lo K C)(m:oI (gY (itOf C)))(p:ByteArray)(t:p.size<=1048576)(s:Thk.path (toL p)=true):Calls prog 51 #[.pointer (some (z rb)),.string p] w λe w'=>∃b,gY (itOf C) b/\e=.returned (.string ⟨(kP (toL p) b).toArray⟩)/\Below w.heap.size w w':=by
 have h:J<|∀g,g=w.alloc (.cells #[.pointer (some (z rb))] 81)->Calls prog 95 #[.string p,.func (.func 162) #[] #[.pointer (some (z w.heap.size))]] g λe w'=>∃b,gY (itOf C) b/\e=.returned (.string ⟨(kP (toL p) b).toArray⟩)/\Below w.heap.size w w':=λg f=>by
  subst f;have c:Below w.heap.size w (w.alloc (.cells #[.pointer (some (z rb))] 81)):=(φ _ w).alloc (χ _) _;have d:=l.below c;refine ψ (TV _ (k.mono c) p t s _ _ (gY (itOf C)) _ (CV _ w.heap.size rb a io co lo K C (ah.new w _ _) d) (enters_of func162 (by kernel_rfl) rfl) ?_ m) ?_
  .rintro u (rfl|rfl|r)
   .simp
   .exact d.blk.lt
   .exact d.st.lt u (τ (by rw[r]))
  .rintro e w'⟨b,o,rfl,q⟩;exact⟨b,o,rfl,c.trans (q.mono c.size)⟩
 have j:J<|_:=alive_any w rb;clear l m k;go_enter func51,ntmps51;go_wp2_with fail;refine ψ j.o ?_;rintro e v⟨rfl,n⟩;have i:J<|_:=h.o v n;clear h j n;go_wp2_with fail;refine ψ i.o ?_;rintro e x⟨b,f,rfl,c⟩;clear i;go_wp2_with fail;go_ret;exact⟨b,f,rfl,c⟩
