import Derived.Test.YtfmmllpjgkgeaabGreatDoorZ23
set_option linter.all false
set_option maxHeartbeats 0
set_option maxRecDepth 100000
namespace Go.Proofs.YtfmmllpjgkgeaabGreatDoor
section
open Go.Proofs.Tryz Go.RowKit Go.Maps Go.WideMaps Go.Shelf
attribute [local go_sem] Oper.semAt_some
def alive_any(w:World)(rb:Nat):Calls prog 87 #[.pointer (some (z rb))] w λe a=>e=.returned (.func (.func 154) #[] #[.pointer (some (z w.heap.size))])/\a=w.alloc (.cells #[.pointer (some (z rb))] 78):=by go_enter func87,ntmps87;go_wp2;go_ret;exact⟨rfl,rfl⟩
def L6(w0:World)(j rb a:Nat)(io co lo:Option Nat)(K:Nat->Nat)(C:Nat->Option Thk.Ch)(ap:aC w0 j #[.pointer (some (z rb))] 78)(t:vH w0 rb a io co lo K C):Iter prog 154 #[.pointer (some (z j))] (λx:jB=>#[Value.agg #[.string x.p,.int .u8 x.a,.string x.v,I x.m]]) (ny (aU C)) (λk=>k=j\/k=rb\/io=some k) w0:=by
 intro m a1 Jx W X y a4 hY h0;have a9:aC W j #[.pointer (some (z rb))] 78:=(X.2 j (τ rfl)).trans ap;have E:=t.blk.heap (X.2 rb (υ (τ rfl)));obtain⟨N,hN⟩:=t.st.its;have SY:dQ prog 140 W (.map io) N (im (aU C)):=by
  rcases hN with h|⟨b,hb,h⟩
  .exact τ h
  .exact υ ⟨b,hb,h.block (X.2 b (υ (υ (by cases hb;rfl))))⟩
 have kM:=λk ap=>(t.st.ok k ap).1;have a5:=t.a5;have al:=a9.lt;have an:=E.lt;have a8:∀k,io=some k->k<W.heap.size:=λk ap=>SY.lt k (by rw[ap]);have cA:∀o,(W.alloc o).cell? (z j)=some (.pointer (some (z rb))):=λo=>((a9.alloc o).cell 0).trans rfl;have r1:∀o,(W.alloc o).cell? (O rb 1)=some (.map io):=λo=>((E.alloc o).cell 1).trans rfl;have r2:∀o,(W.alloc o).cell? (O rb 2)=some (.map co):=λo=>((E.alloc o).cell 2).trans rfl;have r3:∀o,(W.alloc o).cell? (O rb 3)=some (.map lo):=λo=>((E.alloc o).cell 3).trans rfl;have IY:J<|∀wx,Calls prog 140 #[.agg #[.map io,.map co,.map lo]] wx _:=λwx=>IL wx io co lo;clear t hN ap;refine callsIn_of_wp_marks func154 rfl trivial ?_ rfl;simp only[ntmps154,List.size_toArray,δ,List.length_nil,Nat.reduceAdd,Nat.reduceSub,Array.replicate_succ,Array.replicate_zero,List.push_toArray,List.append_toArray,List.nil_append,List.cons_append];gi_wp2_with fail;refine⟨trivial,(callsIn_wide.2 (IY.o _)).mono ?_⟩;rintro e w1⟨rfl,rfl⟩;gi_wp2_with fail;have a7:Below W.heap.size W ((W.alloc (.cells #[.func (.yield m) #[] #[]] 89)).alloc (.cells #[.map io,.map co,.map lo] 101)):=((φ _ W).alloc (χ _) _).alloc Ω _;have ky:aC ((W.alloc (.cells #[.func (.yield m) #[] #[]] 89)).alloc (.cells #[.map io,.map co,.map lo] 101)) W.heap.size #[.func (.yield m) #[] #[]] 89:=(aC.new W _ _).alloc _;have ks:aC ((W.alloc (.cells #[.func (.yield m) #[] #[]] 89)).alloc (.cells #[.map io,.map co,.map lo] 101)) (W.heap.size+1) #[.map io,.map co,.map lo] 101:=by have:=aC.new (W.alloc (.cells #[.func (.yield m) #[] #[]] 89)) #[.map io,.map co,.map lo] 101;rwa [ϊ]at this
 generalize ((W.alloc (.cells #[.func (.yield m) #[] #[]] 89)).alloc (.cells #[.map io,.map co,.map lo] 101))=w3 at *;have ag:=ks.lt;have Aa:=zA w3 (W.heap.size+1) io co lo (aU C) N ks (SY.below a7) kM (λk v h=>lC h);obtain⟨P,l⟩:∃P:(Nat->Prop)->Nat->Prop,P=λT k=>T k\/k=W.heap.size\/k=W.heap.size+1:=⟨_,rfl⟩;have s:∀{T T':Nat->Prop}{A B:World},aA T A B->(∀k,T' k->(T k\/A.heap.size<=k)/\k<B.heap.size)->W.heap.size+2<=A.heap.size->aA (P T) A B/\∀k,P T' k->(P T k\/A.heap.size<=k)/\k<B.heap.size:=by
  intro T T' A B g d hs;refine⟨g.mono (λk _ ap=>by rw[l];exact τ ap),λk ap=>?_⟩;rw[l]at ap⊢;have:=g.size;rcases ap with ap|ap
  .exact⟨(d k ap).1.imp τ id,(d k ap).2⟩
  .exact⟨τ (υ ap),V⟩
 refine iO (gf:=195) (lb:=#[.pointer (some (z (W.heap.size+1)))]) rfl (enters_of func195 (by kernel_rfl) rfl) Aa (dh.refl _ _) (λk ap=>by rcases ap with rfl|ap;exact ag;have:=a8 k ap;omega) (λ_=>rfl)
  (λT aq f=>a1 (P T) aq f/\aC f W.heap.size #[.func (.yield m) #[] #[]] 89/\¬T W.heap.size/\W.heap.size+2<=f.heap.size) (λU T aq f=>U=.ret/\Jx (P T) aq f/\W.heap.size+2<=f.heap.size)
  (λT T' aq A B h g d=>by have c:=s g d h.2.2.2;exact⟨y _ _ _ _ _ h.1 c.1 c.2,h.2.1.aJ g h.2.2.1,λap=>by rcases(d _ ap).1 with h2|h2;exact h.2.2.1 h2;have:=h.2.2.2;omega,ς h.2.2.2 g.size⟩)
  (λU T T' aq A B h g d=>by have c:=s g d h.2.2;exact⟨h.1,a4 _ _ _ _ _ h.2.1 c.1 c.2,ς h.2.2 g.size⟩)
  ⟨y _ _ _ _ _ h0 (aA.of_below a7) (λk ap=>by rw[l]at ap;rcases ap with ap|ap;exact ap.elim;exact⟨υ V,V⟩),ky,λh=>h,V⟩ ?round ?done ?stop
 case round =>
  rintro l' T aq x n ak d⟨p,a0,Q,q⟩ KL ⟨ys,ah,af⟩;obtain⟨xn,H,F,L,G⟩:=x;gi_wp2;refine⟨⟨Ω,λk ap=>?_⟩, ?_⟩
  .refine((φ n.heap.size n).alloc (χ _) _).block k (ap.elim (λh=>?_) (λh=>(d k h).2));rcases h with rfl|h
   .omega
   .have:=a8 k h;omega
  intro r Z aa hE2;have ae:∀k,T k->k<r.heap.size:=λk ap=>by rw[aa];have:=(d k ap).2;simp;omega
  have D:=(aA.of_below ((φ n.heap.size n).alloc (χ _) _)).trans Z;have c:=s D (λk ap=>⟨τ ap,ae k ap⟩) q;have a2:=y _ _ _ _ _ p c.1 c.2;have R:=a0.aJ D Q;have ar:aC r n.heap.size #[.string H,.int .u8 F,.string L,I G] 85:=(aC.new n _ _).aJ Z (λap=>by have:=(d _ ap).2;omega);have y0:=(R.cell 0).trans rfl;have b0:=(ar.cell 0).trans rfl;have b1:=(ar.cell 1).trans rfl;have b2:=(ar.cell 2).trans rfl;have b3:=(ar.cell 3).trans rfl;obtain⟨fn,ao,ai,aj,hy,S⟩:=hY (P T) aq ⟨xn,H,F,L,G⟩ r a2 ⟨ys,ah,af⟩;try dsimp only at hy
  have Ti:=ω R;have ac:=ς q D.size;clear a0 R ar D Z aa hE2 KL p a2 c;gi_wp2;refine RoundIn.mono (qN (fZ S)) ?_;rintro e w (⟨rfl,a3,u⟩|⟨rfl,a6,u⟩)
  .have i:J<|a1 (P T) (aq++[⟨xn,H,F,L,G⟩]) w/\dh (λk=>(k=j\/k=rb\/io=some k)\/P T k) r w:=⟨a3,u⟩;clear a3 u y0 b0 b1 b2 b3 hy S;gi_wp2;refine⟨⟨i.o.1,(i.o.2.2 _ (υ (by rw[l];exact υ (τ rfl)))).trans Ti.o,Q,ς ac i.o.2.1⟩,i.o.2.mono (λk ap=>?_)⟩;rcases ap with(rfl|ap)|ap
   .exact υ (by rw[l];exact υ (υ rfl))
   .exact τ (υ (υ ap))
   .exact υ (by rw[l];exact τ ap)
  .have i:J<|Jx (P T) (aq++[⟨xn,H,F,L,G⟩]) w/\dh (λk=>(k=j\/k=rb\/io=some k)\/P T k) r w:=⟨a6,u⟩;clear a6 u y0 b0 b1 b2 b3 hy S;gi_wp2;refine⟨⟨rfl,i.o.1,ς ac i.o.2.1⟩,i.o.2.mono (λk ap=>?_)⟩;rcases ap with(rfl|ap)|ap
   .exact υ (by rw[l];exact υ (υ rfl))
   .exact τ (υ (υ ap))
   .exact υ (by rw[l];exact τ ap)
 case done =>rintro av T xs f hD M ad⟨p,a0,Q,q⟩ d Y;gi_wp2;refine⟨Ω,.inl ⟨_,_,rfl,run_takeDeferred Y, ?_⟩⟩;refine⟨_,results_none rfl _ _ _,⟨_,rfl⟩,τ ⟨xs,ad,P T, ?_⟩⟩;have c:=s (T:=T) (T':=T) (eF f av (.deferred none) M) (λk ap=>⟨τ ap,by rw[dL];exact(d k ap).2⟩) q;exact y _ _ _ _ _ p c.1 c.2
 case stop =>rintro av T U aq f hD M⟨rfl,p,q⟩ d Y;gi_wp2;refine⟨Ω,.inl ⟨_,_,rfl,run_takeDeferred Y, ?_⟩⟩;refine⟨_,results_none rfl _ _ _,⟨_,rfl⟩,υ ⟨aq,P T, ?_⟩⟩;have c:=s (T:=T) (T':=T) (eF f av (.deferred none) M) (λk ap=>⟨τ ap,by rw[dL];exact(d k ap).2⟩) q;exact a4 _ _ _ _ _ p c.1 c.2
end
section
open Go.Proofs.Tryz Go.RowKit Go.Maps Go.WideMaps Go.Shelf
attribute [local go_sem] Oper.semAt_some
def DN(w:World)(p:ByteArray)(gf:Nat)(lb:Array Value):Calls prog 151 #[.string p,.func (.func gf) #[] lb] w λe a=>e=.returned (.func (.func 213) #[] #[.pointer (some (z (w.heap.size+1))),.pointer (some (z w.heap.size))])/\a=(w.alloc (.cells #[.string p] 82)).alloc (.cells #[.func (.func gf) #[] lb] 150):=by go_enter func151,ntmps151;go_wp2;go_ret;exact⟨rfl,rfl⟩
def Aq(p:ByteArray)(xs:List jB):List jB:=xs.filter (λx=>x.p.toList==p.toList)
def Xv(S:List jB->Prop)(p:ByteArray)(ys:List jB):Prop:=∃xs,S xs/\ys=Aq p xs
def PZ(w0:World)(m b7:Nat)(p:ByteArray)(gf:Nat)(lb:Array Value)(S:List jB->Prop)(E:Nat->Prop)(an:Iter prog gf lb (λx:jB=>#[Value.agg #[.string x.p,.int .u8 x.a,.string x.v,I x.m]]) S E w0)(eg:∀a7 w,(callFunc gf a7).run prog w=.ok (.enter gf a7) w)(a0:∀k,E k->k<w0.heap.size)(hf:aC w0 m #[.func (.func gf) #[] lb] 150)(hp:aC w0 b7 #[.string p] 82):Iter prog 213 #[.pointer (some (z m)),.pointer (some (z b7))] (λx:jB=>#[Value.agg #[.string x.p,.int .u8 x.a,.string x.v,I x.m]]) (Xv S p) (λk=>k=m\/k=b7\/E k) w0:=by
 intro D a5 Jx W L M aa hY h0;have ac:aC W m #[.func (.func gf) #[] lb] 150:=(L.2 m (τ rfl)).trans hf;have ad:aC W b7 #[.string p] 82:=(L.2 b7 (υ (τ rfl))).trans hp;have ax:=ac.lt;have az:=ad.lt;have b4:=L.1;have aj:=L.mono (λk a=>υ (υ a));have cA:∀o,(W.alloc o).cell? (z m)=some (.func (.func gf) #[] lb):=λo=>((ac.alloc o).cell 0).trans rfl;clear hf hp;refine callsIn_of_wp_marks func213 rfl trivial ?_ rfl;simp only[ntmps213,List.size_toArray,δ,List.length_nil,Nat.reduceAdd,Nat.reduceSub,Array.replicate_succ,Array.replicate_zero,List.push_toArray,List.append_toArray,List.nil_append,List.cons_append];gi_wp2_with fail;have N:Below W.heap.size W (W.alloc (.cells #[.func (.yield D) #[] #[]] 89)):=(φ _ W).alloc (χ _) _;have ky:aC (W.alloc (.cells #[.func (.yield D) #[] #[]] 89)) W.heap.size #[.func (.yield D) #[] #[]] 89:=aC.new W _ _;have af:=ad.below N;generalize (W.alloc (.cells #[.func (.yield D) #[] #[]] 89))=w3 at *;have b5:=ky.lt;obtain⟨P,r⟩:∃P:(Nat->Prop)->Nat->Prop,P=λT k=>T k\/k=W.heap.size:=⟨_,rfl⟩;have b9:∀{T T':Nat->Prop}{A B:World},aA T A B->(∀k,T' k->(T k\/A.heap.size<=k)/\k<B.heap.size)->W.heap.size+1<=A.heap.size->aA (P T) A B/\∀k,P T' k->(P T k\/A.heap.size<=k)/\k<B.heap.size:=by
  intro T T' A B j c hs;refine⟨j.mono (λk _ a=>by rw[r];exact τ a),λk a=>?_⟩;rw[r]at a⊢;have:=j.size;rcases a with a|a
  .exact⟨(c k a).1.imp τ id,(c k a).2⟩
  .exact⟨τ (υ a),V⟩
 refine iO (E:=λk=>k=b7\/E k) (w0:=w3) (S:=S) (encs:=λx:jB=>#[Value.agg #[.string x.p,.int .u8 x.a,.string x.v,I x.m]]) (gf:=gf) (lb:=lb) rfl eg ?it (dh.refl _ _) (λk a=>by rcases a with rfl|a;omega;have:=a0 k a;omega) (λ_=>rfl)
  (λT d f=>a5 (P T) (Aq p d) f/\aC f W.heap.size #[.func (.yield D) #[] #[]] 89/\¬T W.heap.size/\W.heap.size+1<=f.heap.size) (λZ T d f=>Z=.ret/\Jx (P T) (Aq p d) f/\W.heap.size+1<=f.heap.size)
  (λT T' d A B h j c=>by have b:=b9 j c h.2.2.2;exact⟨M _ _ _ _ _ h.1 b.1 b.2,h.2.1.aJ j h.2.2.1,λa=>by rcases(c _ a).1 with K|K;exact h.2.2.1 K;have:=h.2.2.2;omega,ς h.2.2.2 j.size⟩)
  (λZ T T' d A B h j c=>by have b:=b9 j c h.2.2;exact⟨h.1,aa _ _ _ _ _ h.2.1 b.1 b.2,ς h.2.2 j.size⟩)
  ⟨M _ _ _ _ _ h0 (aA.of_below N) (λk a=>by rw[r]at a;rcases a with a|a;exact a.elim;exact⟨υ V,V⟩),ky,λh=>h,V⟩ ?round ?done ?stop
 case it =>
  intro l2 J2 ah g ao g1 g2 g3 g4;refine an l2 J2 ah g ((aj.trans ⟨N.size,λk a=>N.block k (by have:=a0 k a;omega)⟩).trans (ao.mono (λk a=>υ a))) g1 g2 (λT d x i b K=>?_) g4;refine YieldAt.mono (g3 T d x i b K) ?_;rintro e f (⟨rfl,h3,h4⟩|⟨rfl,h3,h4⟩)
  .exact τ ⟨rfl,h3,h4.mono (λk a=>a.imp υ id)⟩
  .exact υ ⟨rfl,h3,h4.mono (λk a=>a.imp υ id)⟩
 case round =>
  rintro l' T d x i aw c⟨q,a2,G,s⟩ KL ⟨ys,aq,ap⟩;have ai:aC i b7 #[.string p] 82:=(KL.2 b7 (τ rfl)).trans af;obtain⟨F,b8,t,v,u⟩:=x;gi_wp2;refine⟨⟨Ω,λk a=>?_⟩, ?_⟩
  .refine((φ i.heap.size i).alloc (χ _) _).block k (a.elim (λh=>?_) (λh=>(c k h).2));rcases h with rfl|h
   .omega
   .have:=a0 k h;omega
  intro g a1 ae hE2;have al:∀k,T k->k<g.heap.size:=λk a=>by rw[ae];have:=(c k a).2;simp;omega
  have Q:=(aA.of_below ((φ i.heap.size i).alloc (χ _) _)).trans a1;have b:=b9 Q (λk a=>⟨τ a,al k a⟩) s;have a8:=M _ _ _ _ _ q b.1 b.2;have X:=a2.aJ Q G;have a6:aC g b7 #[.string p] 82:=(hE2.2 b7 (τ rfl)).trans af;have C:aC g i.heap.size #[.string b8,.int .u8 t,.string v,I u] 85:=(aC.new i _ _).aJ a1 (λa=>by have:=(c _ a).2;omega);have y0:=(X.cell 0).trans rfl;have p0:=(a6.cell 0).trans rfl;have b0:=(C.cell 0).trans rfl;have b1:=(C.cell 1).trans rfl;have b2:=(C.cell 2).trans rfl;have b3:=(C.cell 3).trans rfl;have Ti:=ω X;have a3:=ς s Q.size;have a4:=ω a8;have ag:J<|dh (λk=>(k=b7\/E k)\/T k) g g:=dh.refl _ _;have n:Aq p (d++[⟨F,b8,t,v,u⟩])=Aq p d++(if b8.toList==p.toList then [⟨F,b8,t,v,u⟩]else []):=by unfold Aq;rw[ϑH];congr 1;simp only[List.filter_cons,List.filter_nil]
  clear a2 X C Q a1 ae hE2 KL q a8 b ai a6;cases hxp:(b8.toList==p.toList) with
  | false =>rw[hxp]at n;simp only[ϑB,if_false,List.append_nil]at n;gi_wp2;refine⟨λ_ h=>(by cases h), ?_⟩;gi_wp2;refine⟨⟨by rw[n];exact a4.o,Ti.o,G,a3⟩,ag.o⟩
  | true =>
   rw[hxp]at n;simp only[if_true]at n;obtain⟨fn,b6,ar,av,hy,Y⟩:=hY (P T) (Aq p d) ⟨F,b8,t,v,u⟩ g a4.o ⟨Aq p ys,⟨ys,aq,rfl⟩,by rw[<- n];exact ap.filter _⟩;try dsimp only at hy
   gi_wp2;refine RoundIn.mono (qN (fZ Y)) ?_;rintro e H (⟨rfl,a9,y⟩|⟨rfl,ab,y⟩)
   .have l:J<|a5 (P T) (Aq p d++[⟨F,b8,t,v,u⟩]) H/\dh (λk=>(k=m\/k=b7\/E k)\/P T k) g H:=⟨a9,y⟩;clear a9 y y0 b0 b1 b2 b3 hy Y;gi_wp2;refine⟨⟨by rw[n];exact l.o.1,(l.o.2.2 _ (υ (by rw[r];exact υ rfl))).trans Ti.o,G,ς a3 l.o.2.1⟩,l.o.2.mono (λk a=>?_)⟩;rcases a with(rfl|a)|a
    .exact τ (υ (τ rfl))
    .exact τ (υ (υ a))
    .exact υ (by rw[r];exact τ a)
   .have l:J<|Jx (P T) (Aq p d++[⟨F,b8,t,v,u⟩]) H/\dh (λk=>(k=m\/k=b7\/E k)\/P T k) g H:=⟨ab,y⟩;clear ab y y0 b0 b1 b2 b3 hy Y;gi_wp2;refine⟨⟨rfl,by rw[n];exact l.o.1,ς a3 l.o.2.1⟩,l.o.2.mono (λk a=>?_)⟩;rcases a with(rfl|a)|a
    .exact τ (υ (τ rfl))
    .exact τ (υ (υ a))
    .exact υ (by rw[r];exact τ a)
 case done =>rintro U T xs f hD R ak⟨q,a2,G,s⟩ c hK;gi_wp2;refine⟨Ω,.inl ⟨_,_,rfl,run_takeDeferred hK, ?_⟩⟩;refine⟨_,results_none rfl _ _ _,⟨_,rfl⟩,τ ⟨Aq p xs,⟨xs,ak,rfl⟩,P T, ?_⟩⟩;have b:=b9 (T:=T) (T':=T) (eF f U (.deferred none) R) (λk a=>⟨τ a,by rw[dL];exact(c k a).2⟩) s;exact M _ _ _ _ _ q b.1 b.2
 case stop =>rintro U T Z d f hD R⟨rfl,q,s⟩ c hK;gi_wp2;refine⟨Ω,.inl ⟨_,_,rfl,run_takeDeferred hK, ?_⟩⟩;refine⟨_,results_none rfl _ _ _,⟨_,rfl⟩,υ ⟨Aq p d,P T, ?_⟩⟩;have b:=b9 (T:=T) (T':=T) (eF f U (.deferred none) R) (λk a=>⟨τ a,by rw[dL];exact(c k a).2⟩) s;exact aa _ _ _ _ _ q b.1 b.2
end
section
open Go.Proofs.Tryz Go.RowKit Go.Maps Go.WideMaps Go.Shelf
attribute [local go_sem] Oper.semAt_some
def Tryz.infoStr:(prog.info? 9).map (λi=>(i.zero,i.size,i.bytes))=some (some (.string ⟨#[]⟩),1,16):=by kernel_rfl
def tN(l:List ByteArray):List Value:=l.map Value.string
def DR(l:List ByteArray)(s:ByteArray):tN (l++[s])=tN l++[.string s]:=by simp[tN]
def Jf(w:World)(gf:Nat)(lb:Array Value)(S:List jB->Prop)(E:Nat->Prop)(X:Iter prog gf lb (λx:jB=>#[Value.agg #[.string x.p,.int .u8 x.a,.string x.v,I x.m]]) S E w)(M:∀r w,(callFunc gf r).run prog w=.ok (.enter gf r) w)(i:∀k,E k->k<w.heap.size)(N:∀ac,S ac->ac.length<=1000):Calls prog 153 #[.func (.func gf) #[] lb] w λL w'=>∃v ac,L=.returned v/\S ac/\w'.ownsRow w.heap.size 9 1 v ac.length (tN (ac.map jB.v))/\Below w.heap.size w w':=by
 obtain⟨i0,U,a3,a4,a5⟩:=info_parts Tryz.infoStr;refine(callsIn_wide (n:=3)).1 ?_;refine callsIn_of_wp_marks func153 rfl trivial ?_ rfl;simp only[ntmps153,List.size_toArray,δ,List.length_nil,Nat.reduceAdd,Nat.reduceSub,Array.replicate_succ,Array.replicate_zero,List.push_toArray,List.append_toArray,List.nil_append,List.cons_append];gi_wp2;have ad:Below w.heap.size w (w.alloc (.cells #[.slice none 0 0] 65)):=(φ _ w).alloc (χ _) _;refine iO (gf:=gf) (lb:=lb) rfl M X ⟨ad.size,λk a=>ad.block k (i k a)⟩ (λk a=>ο (i k a) ad.size) (λ_=>rfl)
  (λT b W=>Coll w w.heap.size 65 9 1 (tN (b.map jB.v)) b.length T W) (λ_ _ _ _=>False)
  (λT T' b W W' h Q e=>h.nS Q e) (λ_ _ _ _ _ _ h _ _=>h)
  ⟨_,Boxed.new w _ _,ϑj _ _ _ _,λh=>h,λ_ _ h=>h,ad,λ_ h=>h.elim,χ _⟩ ?round ?done ?stop
 case round =>
  rintro l T b x W a7 e⟨v,d⟩ KL ⟨ys,a2,a1⟩;have ab:b.length+1<=1000:=by have:=N ys a2;have:=a1.length_le;simp at this;omega
  obtain⟨xn,xp,xa,m,xm⟩:=x;gi_wp2;refine⟨⟨Ω,λk a=>?_⟩, ?_⟩
  .exact((φ _ W).alloc (χ _) _).block k (a.elim (λh=>ο (i k h) d.below.size) (λh=>(e k h).2))
  intro f o A hE2;have u:∀k,T k->k<f.heap.size:=λk a=>by rw[A];have:=(e k a).2;simp;omega
  have g:=d.nS ((aA.of_below ((φ _ W).alloc (χ _) _)).trans o) (λk a=>⟨τ a,u k a⟩);have C:aC f W.heap.size #[.string xp,.int .u8 xa,.string m,I xm] 85:=(aC.new W _ _).aJ o (λa=>by have:=(e _ a).2;omega);have K:=g.bx.cell;have d2:=(C.cell 2).trans rfl;have q:=ω g;have a8:=g.below.size;have a0:J<|b.length+1<=maxLen:=by unfold J maxLen;omega
  have Z:J<|(b.length+1)*16<=140737488355328:=ω V
  have H:J<|∀B F,([.string m]:List Value)[B]?=some F->(f.alloc (.cells #[.string m] 9)).cell? (((z f.heap.size):Addr).add B)=some F:=cell_one_new f _ _;clear d g C o hE2 A;gi_wp2_with (first|(gi_at_builtin;refine wpListIn_append_own_at _ rfl (.tmp 7) (.tmp 10) 65 rfl w.heap.size 9 i0 (.string ⟨#[]⟩) 1 16 underlying65 U a3 a4 a5 rfl Ψ v b.length _ rfl (q.o.row.alloc _) (z f.heap.size) 1 1 [.string m] rfl rfl H.o (by simp[Value.oneCell']) a0.o Z.o Θ ?_;intro v' w1 y R _ Y;have j:=q.o.app (E:=E) Ψ y R Y u i;obtain⟨g',a6,rfl⟩:=ownsRow_succ y;have a9:=j.1.cell;have aa:=j.1.frozen));refine⟨?_,j.2.2⟩;have s:=j.2.1;rw[<- DR]at s;exact⟨_,by rw[ρ,ϑF];exact s⟩
 case done =>
  rintro D T ac W hD G P⟨v,d⟩ e t;have K:=d.bx.cell;have p:=ω d;clear d;gi_wp2;refine⟨Ω,.inl ⟨_,_,rfl,run_takeDeferred t, ?_⟩⟩;refine⟨_,results_tmp rfl _ _ _,v,ac,rfl,P, ?_, ?_⟩
  .exact ownsRow_putObj p.o.row _ t rfl
  .exact(p.o.nS (T':=T) (eF W D (.deferred none) G) (λk a=>⟨τ a,by rw[dL];exact(e k a).2⟩)).below
 case stop =>rintro D T c b W _ _ h;exact h.elim
def Xw(w:World)(gf:Nat)(lb:Array Value)(S:List jB->Prop)(E:Nat->Prop)(a0:Iter prog gf lb (λx:jB=>#[Value.agg #[.string x.p,.int .u8 x.a,.string x.v,I x.m]]) S E w)(R:∀K w,(callFunc gf K).run prog w=.ok (.enter gf K) w)(y:∀k,E k->k<w.heap.size):Calls prog 150 #[.func (.func gf) #[] lb] w λe w'=>∃H b,e=.returned (.string (if b=true then⟨#[49]⟩ else⟨#[48]⟩))/\S H/\(b=true↔H≠[])/\Below w.heap.size w w':=by
 refine(callsIn_wide (n:=3)).1 ?_;refine callsIn_of_wp_marks func150 rfl trivial ?_ rfl;simp only[ntmps150,List.size_toArray,δ,List.length_nil,Nat.reduceAdd,Nat.reduceSub,Array.replicate_succ,Array.replicate_zero,List.push_toArray,List.append_toArray,List.nil_append,List.cons_append];gi_wp2;have t:Below w.heap.size w (w.alloc (.cells #[.string ⟨#[]⟩] 9)):=(φ _ w).alloc (χ _) _;obtain⟨g,j⟩:∃g:ByteArray->(Nat->Prop)->World->Prop,g=λs T W=>aC W w.heap.size #[.string s] 9/\¬T w.heap.size/\Below w.heap.size w W/\∀k,T k->w.heap.size<=k:=⟨_,rfl⟩;have F:∀s{T T':Nat->Prop}{W W':World},g s T W->aA T W W'->(∀k,T' k->(T k\/W.heap.size<=k)/\k<W'.heap.size)->g s T' W':=by
  intro s T T' W W' h f d;rw[j]at h⊢;obtain⟨L,a,v,M⟩:=h;refine⟨L.aJ f a,λc=>?_, ?_,λk c=>?_⟩
  .rcases(d _ c).1 with i|i
   .exact a i
   .have:=L.lt;omega
  .exact v.trans ⟨f.os,f.tape,f.output,f.size,λk c=>f.block k (ο c v.size) (λht=>by have:=M k ht;omega)⟩
  .rcases(d k c).1 with i|i
   .exact M k i
   .exact ς v.size i
 refine iO (gf:=gf) (lb:=lb) rfl R a0 ⟨t.size,λk c=>t.block k (y k c)⟩ (λk c=>ο (y k c) t.size) (λ_=>rfl)
  (λT a4 W=>g ⟨#[]⟩ T W/\a4=[]) (λu T a4 W=>u=.ret/\g ⟨#[49]⟩ T W/\∃m,S m/\m≠[])
  (λT T' a4 W W' h f d=>⟨F _ h.1 f d,h.2⟩) (λu T T' a4 W W' h f d=>⟨h.1,F _ h.2.1 f d,h.2.2⟩)
  ⟨by rw[j];exact⟨aC.new w _ _,λh=>h,t,λ_ h=>h.elim⟩,rfl⟩ ?round ?done ?stop
 case round =>
  rintro l T a4 x W a3 d⟨q,rfl⟩ KL ⟨m,G,N⟩;gi_wp2;refine⟨dh.refl _ _, ?_⟩;intro P Z a2 hE2;have a:=F _ (T':=T) q Z (λk c=>⟨τ c,by rw[a2];exact(d k c).2⟩);rw[j]at a;have Q:=(a.1.cell 0).trans rfl;have f0:=a.1.frozen;gi_wp2;refine⟨⟨rfl, ?_,m,G,λe=>by rw[e]at N;simp at N⟩, ?_⟩
  .rw[j];refine⟨?_,a.2.1,a.2.2.1.setCell (p:=(z w.heap.size)) (χ _) _,a.2.2.2⟩;have:=a.1;unfold aC at this⊢;simp[World.setCell,μ,this]
  .refine⟨by simp[World.setCell],λk c=>Below.heap_setCell P (z w.heap.size) _ k (λe=>?_)⟩;subst e;rcases c with c|c
   .have:=y _ c;simp at this
   .exact a.2.1 c
 case done =>
  rintro D T H W U o X⟨q,rfl⟩ d A;have a:=q;rw[j]at a;have Q:=(a.1.cell 0).trans rfl;have f0:=a.1.frozen;have r:D≠w.heap.size:=λe=>a.2.1 (e▸o);gi_wp2;refine⟨Ω,.inl ⟨_,_,rfl,run_takeDeferred (b:=D) (ds:=[]) ?_, ?_⟩⟩
  .exact(Below.heap_setCell W (z w.heap.size) _ D r).trans A
  .have C:aC ((W.setCell (z w.heap.size) (.string ⟨#[48]⟩)).putObj D (.deferred none)) w.heap.size #[.string ⟨#[48]⟩] 9:=by refine(World.putObj_heap_other (λe=>r e.symm)).trans ?_;have:=a.1;unfold aC at this;simp[World.setCell,μ,this]
   have B:=(C.cell 0).trans rfl;have Y:Below w.heap.size w (W.setCell (z w.heap.size) (.string ⟨#[48]⟩)):=a.2.2.1.setCell (p:=(z w.heap.size)) (χ _) _;refine⟨.string ⟨#[48]⟩,by simp[results,Tryz.results150,go_sem,B],[],false,Ω,X,Ω, ?_⟩;exact Y.trans ⟨rfl,rfl,rfl,by simp[World.putObj],λk c=>World.putObj_heap_other (λe=>by have:=a.2.2.2 D o;omega)⟩
 case stop =>rintro D T u a4 W U o⟨rfl,q,m,G,a1⟩ d A;have a:=q;rw[j]at a;have r:D≠w.heap.size:=λe=>a.2.1 (e▸o);gi_wp2;refine⟨Ω,.inl ⟨_,_,rfl,run_takeDeferred A, ?_⟩⟩;have C:aC (W.putObj D (.deferred none)) w.heap.size #[.string ⟨#[49]⟩] 9:=(World.putObj_heap_other (λe=>r e.symm)).trans a.1;have B:=(C.cell 0).trans rfl;refine⟨.string ⟨#[49]⟩,by simp[results,Tryz.results150,go_sem,B],m,true,Ω,G,by simpa using a1, ?_⟩;exact a.2.2.1.trans ⟨rfl,rfl,rfl,by simp[World.putObj],λk c=>World.putObj_heap_other (λe=>by have:=a.2.2.2 D o;omega)⟩
end
section
open Go.Proofs.Tryz Go.RowKit Go.Maps Go.WideMaps Go.Shelf Go.Sort
attribute [local go_sem] Oper.semAt_some
def sumOf(xs:List jB):Int:=(xs.map jB.m).sum
def DT(xs:List jB)(x:jB):sumOf (xs++[x])=sumOf xs+x.m:=by simp[sumOf]
def L8:∀a:List jB,(∀x∈a,-1000000000<=x.m/\x.m<=1000000000)->-(1000000000*(a.length:Int))<=sumOf a/\sumOf a<=1000000000*(a.length:Int):=by
 intro a;induction a with
 | nil=>intro _;simp[sumOf]
 | cons x r ih =>
  intro h;have c:=ih (λy b=>h y (by simp[b]));have d:=h x Ω;have e:sumOf (x::r)=x.m+sumOf r:=by simp[sumOf]
  rw[e];simp only[δ];omega
def Xx{w w':World}(h:∃k a,w'=grow (w.drewN k) a):Below w.heap.size w w':=by obtain⟨k,a,rfl⟩:=h;exact⟨rfl,rfl,rfl,by simp[World.drewN],λj b=>heap_grow_old _ _ b⟩
def Xy(w:World)(hG:Glob w)(gf:Nat)(lb:Array Value)(S:List jB->Prop)(E:Nat->Prop)(a2:Iter prog gf lb (λx:jB=>#[Value.agg #[.string x.p,.int .u8 x.a,.string x.v,I x.m]]) S E w)(eg:∀G w,(callFunc gf G).run prog w=.ok (.enter gf G) w)(v:∀k,E k->k<w.heap.size)(hS:∀d,S d->d.length<=1000/\∀x∈d,-1000000000<=x.m/\x.m<=1000000000):Calls prog 152 #[.func (.func gf) #[] lb] w λo w'=>∃d,o=.returned (.string ⟨(Lib.itoa (sumOf d)).toArray⟩)/\S d/\Below w.heap.size w w':=by
 have Q:∀j b,S j->b <+: j->-1000000000000<=sumOf b/\sumOf b<=1000000000000:=λj b hy U=>by have t:=hS j hy;have c:=L8 b (λx hx=>t.2 x (U.subset hx));have u:=U.length_le;omega
 refine(callsIn_wide (n:=3)).1 ?_;refine callsIn_of_wp_marks func152 rfl trivial ?_ rfl;simp only[ntmps152,List.size_toArray,δ,List.length_nil,Nat.reduceAdd,Nat.reduceSub,Array.replicate_succ,Array.replicate_zero,List.push_toArray,List.append_toArray,List.nil_append,List.cons_append];gi_wp2;have y:Below w.heap.size w (w.alloc (.cells #[I 0] 2)):=(φ _ w).alloc (χ _) _;obtain⟨m,q⟩:∃m:Int->(Nat->Prop)->World->Prop,m=λs T W=>aC W w.heap.size #[I s] 2/\¬T w.heap.size/\Below w.heap.size w W/\∀k,T k->w.heap.size<=k:=⟨_,rfl⟩;have Z:∀s{T T':Nat->Prop}{W W':World},m s T W->aA T W W'->(∀k,T' k->(T k\/W.heap.size<=k)/\k<W'.heap.size)->m s T' W':=by
  intro s T T' W W' h f e;rw[q]at h⊢;obtain⟨t,c,u,L⟩:=h;refine⟨t.aJ f c,λa=>?_, ?_,λk a=>?_⟩
  .rcases(e _ a).1 with i|i
   .exact c i
   .have:=t.lt;omega
  .exact u.trans ⟨f.os,f.tape,f.output,f.size,λk a=>f.block k (ο a u.size) (λht=>by have:=L k ht;omega)⟩
  .rcases(e k a).1 with i|i
   .exact L k i
   .exact ς u.size i
 refine iO (gf:=gf) (lb:=lb) rfl eg a2 ⟨y.size,λk a=>y.block k (v k a)⟩ (λk a=>ο (v k a) y.size) (λ_=>rfl)
  (λT b W=>m (sumOf b) T W) (λH T b W=>False)
  (λT T' b W W' h f e=>Z _ h f e) (λH T T' b W W' h f e=>h)
  (by rw[q];exact⟨aC.new w _ _,λh=>h,y,λ_ h=>h.elim⟩) ?round ?done ?stop
 case round =>
  rintro l T b x W a7 e g KL⟨j,a6,a3⟩;have r:=Q j _ a6 a3;rw[DT]at r;have a4:w.heap.size<=W.heap.size:=by rw[q]at g;exact g.2.2.1.size
  obtain⟨xn,xp,xa,xv,xm⟩:=x;gi_wp2;refine⟨⟨Ω,λk a=>?_⟩, ?_⟩
  .exact((φ _ W).alloc (χ _) _).block k (a.elim (λh=>ο (v k h) a4) (λh=>(e k h).2))
  intro A B X hE2;have a1:∀k,T k->k<A.heap.size:=λk a=>by rw[X];have:=(e k a).2;simp;omega
  have c:=Z _ (T':=T) g ((aA.of_below ((φ _ W).alloc (χ _) _)).trans B) (λk a=>⟨τ a,a1 k a⟩);rw[q]at c;have kd:aC A W.heap.size #[.string xp,.int .u8 xa,.string xv,I xm] 85:=(aC.new W _ _).aJ B (λa=>by have:=(e _ a).2;omega);have K:=(c.1.cell 0).trans rfl;have f0:=c.1.frozen;have d3:=(kd.cell 3).trans rfl;have a5:IntKind.i64.wrap (sumOf b+xm)=sumOf b+xm:=wrap_in _ (by first|omega|(simp only at r;omega)) (by first|omega|(simp only at r;omega));have a8:=ω c;have Y:=DT b ⟨xn,xp,xa,xv,xm⟩;try simp only at Y
  try simp only at r
  generalize sumOf b=sp at *;clear c kd B X hE2 g KL;gi_wp2;refine⟨?_, ?_⟩
  .refine(show _/\_/\_/\_ from⟨?_,a8.o.2.1,a8.o.2.2.1.setCell (p:=(z w.heap.size)) (χ _) _,a8.o.2.2.2⟩);rw[Y];have:=a8.o.1;unfold aC at this⊢;simp[World.setCell,μ,this,a5]
  .refine⟨by simp[World.setCell],λk a=>Below.heap_setCell A (z w.heap.size) _ k (λo=>?_)⟩;subst o;rcases a with a|a
   .have:=v _ a;simp at this
   .exact a8.o.2.1 a
 case done =>rintro D T d W hD Bv N g e M;have c:=g;rw[q]at c;have K:=(c.1.cell 0).trans rfl;have r:=Q d d N (List.prefix_refl _);have F:J<|_:=Tryz.strconv_FormatInt_10 (sumOf d) V V W (hG.mono c.2.2.1).tab;have C:=ω c.2.2.1;clear c g;gi_wp2_with fail;refine⟨trivial,(callsIn_wide.2 F.o).mono ?_⟩;rintro o w5⟨rfl,R⟩;have P:=Xx R;have a0:=(P.block D (Array.getElem?_eq_some_iff.1 M).1).trans M;clear R F K;gi_wp2_with fail;refine⟨Ω,.inl ⟨_,_,rfl,run_takeDeferred a0, ?_⟩⟩;refine⟨_,results_tmp rfl _ _ _,d,rfl,N, ?_⟩;exact(C.o.trans (P.mono C.o.size)).trans ⟨rfl,rfl,rfl,by simp[World.putObj],λk a=>World.putObj_heap_other (λo=>by simp at hD;omega)⟩
 case stop =>rintro D T H b W _ _ h;exact h.elim
end
section
open Go.Proofs.Tryz Go.RowKit Go.Maps Go.WideMaps Go.Shelf Go.Sort
attribute [local go_sem] Oper.semAt_some
def fC(p:ByteArray)(xs:List jB):List ByteArray:=(xs.filter (λx=>(ay p++[47]).isPrefixOf (ay x.p))).map (λx=>⟨(jM (ay p) (ay x.p)).toArray⟩)
def Jg(p:ByteArray)(xs:List jB)(x:jB):fC p (xs++[x])=fC p xs++(if(ay p++[47]).isPrefixOf (ay x.p)=true then [⟨(jM (ay p) (ay x.p)).toArray⟩]else []):=by unfold fC;rw[ϑH,ϑF];congr 1;simp only[List.filter_cons,List.filter_nil];split<;>simp
def Ar(p:ByteArray)(xs:List jB):(fC p xs).length<=xs.length:=by unfold fC;rw[ϑh];exact List.length_filter_le _ _
def Ui(w:World)(m:Int)(N:w.cell? (z 0)=some (I m))(p:ByteArray)(ai:p.size<=1048576)(gf:Nat)(lb:Array Value)(S:List jB->Prop)(E:Nat->Prop)(ac:Iter prog gf lb (λx:jB=>#[Value.agg #[.string x.p,.int .u8 x.a,.string x.v,I x.m]]) S E w)(eg:∀a0 w,(callFunc gf a0).run prog w=.ok (.enter gf a0) w)(o:∀k,E k->k<w.heap.size)(hS:∀az,S az->az.length<=1000/\∀x∈az,x.p.size<=1048576):Calls prog 149 #[.string p,.func (.func gf) #[] lb] w λt w'=>∃v az,t=.returned v/\S az/\w'.ownsRow w.heap.size 9 1 v (fC p az).length (tN (fC p az))/\Below w.heap.size w w':=by
 obtain⟨i0,hi,aj,ak,al⟩:=info_parts Tryz.infoStr;have aa:0<w.heap.size:=block_lt_of_cell N;have af:J<|∀Q,Below w.heap.size w Q->Q.cell? (z 0)=some (I m):=λQ hx=>(hx.cell (p:=(z 0)) aa).trans N;clear N;refine(callsIn_wide (n:=3)).1 ?_;refine callsIn_of_wp_marks func149 rfl trivial ?_ rfl;simp only[ntmps149,List.size_toArray,δ,List.length_nil,Nat.reduceAdd,Nat.reduceSub,Array.replicate_succ,Array.replicate_zero,List.push_toArray,List.append_toArray,List.nil_append,List.cons_append];gi_wp2;have y:Below w.heap.size w ((w.alloc (.cells #[.string p] 82)).alloc (.cells #[.slice none 0 0] 65)):=((φ _ w).alloc (χ _) _).alloc Ω _;have kp:aC ((w.alloc (.cells #[.string p] 82)).alloc (.cells #[.slice none 0 0] 65)) w.heap.size #[.string p] 82:=(aC.new w _ _).alloc _;have kf:aC ((w.alloc (.cells #[.string p] 82)).alloc (.cells #[.slice none 0 0] 65)) (w.heap.size+1) #[.slice none 0 0] 65:=by have:=aC.new (w.alloc (.cells #[.string p] 82)) #[.slice none 0 0] 65;rwa [ϊ]at this
 generalize ((w.alloc (.cells #[.string p] 82)).alloc (.cells #[.slice none 0 0] 65))=w3 at *;have ax:=kf.lt;refine iO (gf:=gf) (lb:=lb) rfl eg ac ⟨y.size,λk a=>y.block k (o k a)⟩ (λk a=>ο (o k a) y.size) (λ_=>rfl)
  (λT b W=>Coll w (w.heap.size+1) 65 9 1 (tN (fC p b)) (fC p b).length T W/\aC W w.heap.size #[.string p] 82/\¬T w.heap.size) (λ_ _ _ _=>False)
  (λT T' b W W' h hc e=>⟨h.1.nS hc e,h.2.1.aJ hc h.2.2,λa=>by rcases(e _ a).1 with d|d;exact h.2.2 d;have:=h.2.1.lt;omega⟩) (λ_ _ _ _ _ _ h _ _=>h)
  ⟨⟨_,kf,ϑj _ _ _ _,λh=>h,λ_ _ h=>h,y,λ_ h=>h.elim,V⟩,kp,λh=>h⟩ ?round ?done ?stop
 case round =>
  rintro l T b x W ap e⟨⟨v,f⟩,A,r⟩ KL ⟨ys,a8,a4⟩;have a7:x.p.size<=1048576:=(hS ys a8).2 x (a4.subset Ω);have aw:(fC p b).length+1<=1001:=by have:=(hS ys a8).1;have:=a4.length_le;have:=Ar p b;simp at *;omega
  have b2:=ω<|Jg p b x
  obtain⟨xn,C,xa,xv,xm⟩:=x;simp only at a7 b2;gi_wp2;refine⟨⟨Ω,λk a=>?_⟩, ?_⟩
  .exact((φ _ W).alloc (χ _) _).block k (a.elim (λh=>ο (o k h) f.below.size) (λh=>(e k h).2))
  intro s K a5 hE2;have H:∀k,T k->k<s.heap.size:=λk a=>by rw[a5];have:=(e k a).2;simp;omega
  have L:=(aA.of_below ((φ W.heap.size W).alloc (χ _) _)).trans K;have G:=f.nS L (λk a=>⟨τ a,H k a⟩);have F:=A.aJ L r;have ke:aC s W.heap.size #[.string C,.int .u8 xa,.string xv,I xm] 85:=(aC.new W _ _).aJ K (λa=>by have:=(e _ a).2;omega);have p0:=(F.cell 0).trans rfl;have b0:=(ke.cell 0).trans rfl;have D:=ω G;have Y:=ω F;have U:J<|_:=KC p C m s ai a7 (af.o _ G.below);clear f G A F ke L K a5 hE2 KL;gi_wp2_with fail;refine⟨trivial,CallsIn.inRound l ((callsIn_wide.2 U.o).mono ?_)⟩;rintro t b1⟨B,rfl,P,_,g⟩;have a1:=λk a=>ο (H k a) g.size;have i:=ω<|D.o.nS (aA.of_below g) (λk a=>⟨τ a,a1 k a⟩)
  have q:=ω<|Y.o.below g
  have Z:J<|dh (λk=>E k\/T k) s b1:=⟨g.size,λk a=>g.block k (a.elim (λh=>ο (o k h) D.o.below.size) (H k))⟩;have c0:=i.o.bx.cell;have aq:=i.o.below.size;clear g U p0 b0 D Y;cases hpp:(ay p++[47]).isPrefixOf (ay C) with
  | false =>rw[hpp]at b2;gi_wp2_with fail;refine⟨⟨?_,q.o,r⟩,Z.o⟩;have d:=b2.o;simp only[ϑB,if_false,List.append_nil]at d;rw[d];exact⟨v,i.o⟩
  | true =>
   rw[hpp]at b2 P;have a6:B=⟨(jM (ay p) (ay C)).toArray⟩:=by rw[<- P rfl,Dj]
   have ah:J<|(fC p b).length+1<=maxLen:=by unfold J maxLen;omega
   have ag:J<|((fC p b).length+1)*16<=140737488355328:=ω V
   have OT:J<|∀j u,([.string B]:List Value)[j]?=some u->(b1.alloc (.cells #[.string B] 9)).cell? (((z b1.heap.size):Addr).add j)=some u:=cell_one_new b1 _ _;have a9:=ω a6;clear P a6;gi_wp2_with (first|(gi_at_builtin;refine wpListIn_append_own_at _ rfl (.tmp 19) (.tmp 21) 65 rfl w.heap.size 9 i0 (.string ⟨#[]⟩) 1 16 underlying65 hi aj ak al rfl Ψ v _ _ rfl (i.o.row.alloc _) (z b1.heap.size) 1 1 [.string B] rfl rfl OT.o (by simp[Value.oneCell']) ah.o ag.o Θ ?_;intro v' w5 a3 a2 _ ae;have b3:=i.o.app (E:=E) Ψ a3 a2 ae a1 o;obtain⟨g',an,rfl⟩:=ownsRow_succ a3;have ar:=b3.1.cell;have av:=b3.1.frozen;have ad:aC w5 w.heap.size #[.string p] 82:=(a2.block w.heap.size (by simp;have:=q.o.lt;omega) (λt=>ownsRow_ne i.o.row (λao fz e2=>by rw[show b1.heap[w.heap.size]?=_ from q.o]at e2;cases e2) t.symm)).trans (q.o.alloc _)));refine⟨⟨?_, ?_,r⟩,Z.o.trans b3.2.2⟩
   .have d:=b2.o;simp only[if_true]at d;rw[d,<- a9.o,DR,ρ];exact⟨_,b3.2.1⟩
   .exact ad.aJ (M:=λk=>k=w.heap.size+1) ((aA.refl (λk=>k=w.heap.size+1) w5).setCell (p:=(z (w.heap.size+1))) rfl _) V
 case done =>
  rintro R T az W hD Bv ab⟨⟨v,f⟩,A,r⟩ e hK;have c0:=f.bx.cell;have X:=ω f;clear f A;gi_wp2;refine⟨Ω,.inl ⟨_,_,rfl,run_takeDeferred hK, ?_⟩⟩;refine⟨_,results_tmp rfl _ _ _,v,az,rfl,ab, ?_, ?_⟩
  .exact ownsRow_putObj X.o.row _ hK rfl
  .exact(X.o.nS (T':=T) (eF W R (.deferred none) Bv) (λk a=>⟨τ a,by rw[dL];exact(e k a).2⟩)).below
 case stop =>rintro R T c b W _ _ h;exact h.elim
end
section
open Go.Proofs.Tryz Go.RowKit Go.Maps Go.WideMaps Go.Shelf Go.Sort Go.Lib
def nJ(l:List Thk.Bs):Thk.Bs:=Lib.join (Lib.compact (l.mergeSort λx y=>decide (x<=y))) [44]
def FD{w:World}{base g c:Nat}{l:List ByteArray}(h:w.ownsRow base 9 1 (.slice (some (z g)) l.length c) l.length (tN l)):Holds encStr w g 0 (l.map ay).toArray:=by
 intro j a;simp at a;have e:w.frozen? (O g (0+j))=false:=by
  obtain⟨_,⟨d,_⟩|⟨m,i,k,b,_,f,_⟩⟩:=h
  .cases d
  .simp only[ϑa,ϑb,ϑz,ϑM,ϑN]at b;obtain⟨rfl,rfl⟩:=b;simp[World.frozen?,f]
 refine⟨?_,e⟩;rw[Nat.zero_add,h.cellAt j V];simp[tN,a,encStr,ay]
def Jh(B:Nat):∀r:List (List UInt8),(∀x∈r,x.length<=B)->(Lib.joinTail [44] r).length<=r.length*(B+1):=by
 intro r;induction r with
 | nil=>intro _;simp[Lib.joinTail]
 | cons x r ih =>
  intro h;have b:=ih (λy a=>h y (by simp[a]));have c:=h x Ω;have e:Lib.joinTail [44] (x::r)=[44]++x++Lib.joinTail [44] r:=by simp[Lib.joinTail]
  rw[e];simp only[ρ,δ,List.length_nil];rw[Nat.add_mul];omega
def Xz(B:Nat)(xs:List (List UInt8))(h:∀x∈xs,x.length<=B):(Lib.join xs [44]).length<=xs.length*(B+1):=by
 cases xs with
 | nil=>simp[Lib.join_nil]
 | cons x r =>rw[Lib.join_cons,ρ];have b:=Jh B r (λy a=>h y (by simp[a]));have c:=h x Ω;simp only[δ];rw[Nat.add_mul];omega
def L9{zs:List (List UInt8)}{x:List UInt8}(h:x∈Lib.compact zs):x∈zs:=by
 unfold Lib.compact Lib.compactUpTo at h;obtain⟨j,a,rfl⟩:=ι.1 h;have b:j<zs.length:=by have:=(ϑf.1 a).1;simpa using this
 simp[b]
def oz(a:List (List UInt8)):(Lib.compact a).length<=a.length:=by unfold Lib.compact Lib.compactUpTo;rw[ϑh];exact ς (List.length_filter_le _ _) Ω
def DU{a:Type} [Inhabited a] (f:a->Value) (w:World) (q c i:Nat) (d:Array a) (j:Array Obj):aA (λb=>b=c) w (grow (putRow f (Sort.ahead w q) c i d) j):=by refine⟨rfl,rfl,rfl,by simp[putRow,mapBlock,Sort.ahead],λb g h=>?_⟩;rw[heap_grow_old _ _ (by simp[putRow,mapBlock,Sort.ahead];exact g)];simp only[putRow,mapBlock,Sort.ahead];rw[μ,ύ (λe=>h (Eq.symm e))]
def Mc(w:World)(base:Nat)(v:Value)(l:List ByteArray)(h:w.ownsRow base 9 1 v l.length (tN l))(hl:l.length<=1000)(hs:∀s∈l,s.size<=1000):Calls prog 148 #[v] w λe w'=>e=.returned (.string ⟨(nJ (l.map ay)).toArray⟩)/\aA (λk=>v.ownBlock=some k) w w':=by
 have i:=h;obtain⟨m,⟨rfl,hn⟩|⟨g,d,a2,rfl,hg,hh,a5,_⟩⟩:=h
 .have a0:=ϑr hn;subst a0;have o:J<|_:=Tryz.slices_Sort_string_none none 0 w;have p:J<|_:=Tryz.slices_Compact_string_empty none 0 w;have q:J<|_:=Tryz.strings_Join_none none 0 ⟨#[44]⟩ w;have r:J<|_:=uN ⟨#[]⟩ w Ψ;clear i;go_enter func148,ntmps148;go_wp2_with fail;refine ψ o.o ?_;rintro e a⟨rfl,rfl⟩;go_wp2_with fail;refine ψ p.o ?_;rintro e b⟨rfl,rfl⟩;go_wp2_with fail;refine ψ q.o ?_;rintro e c⟨rfl,rfl⟩;go_wp2_with fail;refine ψ r.o ?_;rintro e w4⟨rfl,W⟩;have Z:nJ (List.map ay [])=[]:=by unfold nJ;simp[Lib.compact,Lib.compactUpTo,Lib.join_nil]
  go_wp2;go_ret;exact⟨by rw[Z];rfl,aA.of_below W⟩
 .have a6:=(i.lt g rfl).2;have u:=FD i;obtain⟨zs,n⟩:∃zs,zs=(l.map ay).mergeSort (λx y=>decide (x<=y)):=⟨_,rfl⟩;have F:zs.Perm (l.map ay):=by rw[n];exact List.mergeSort_perm _ _
  have Q:zs.length=l.length:=by rw[F.length_eq];simp
  have P:∀x∈zs,x.length<=1000:=λx m=>by obtain⟨s,a1,rfl⟩:=ι.1 (F.mem_iff.1 m);have:=hs s a1;show s.data.toList.length<=1000;simpa using this
  have E:Lib.join (Lib.compact zs) [44]=nJ (l.map ay):=by rw[n];(first|done|rfl)
  have D:(Lib.join (Lib.compact zs) [44]).length<=1001000:=by have h1:=Xz 1000 (Lib.compact zs) (λx m=>P x (L9 m));have h2:=oz zs;have h3:(Lib.compact zs).length*1001<=1000*1001:=Nat.mul_le_mul_right _ V;omega
  have o:J<|Calls prog 209 #[.slice (some (z g)) l.length d] w λe w'=>e=.returned (.tuple #[])/\Holds encStr w' g 0 zs.toArray/\aA (λk=>k=g) w w':=by have:=Tryz.slices_Sort_string g 0 d (l.map ay) w u a6 Θ;rw[ϑh]at this;refine ψ this ?_;rintro e w'⟨rfl,a7,os,rfl⟩;rw[<- n];refine⟨rfl,holds_grow _ _ _ _ _ _ (by simp[putRow,mapBlock,Sort.ahead];exact a6) (holds_putRow encStr (Sort.ahead w a7) g 0 (l.map ay).toArray zs.toArray u (by simp[Q])),DU encStr w a7 g 0 _ os⟩
  have p:J<|∀a,Holds encStr a g 0 zs.toArray->g<a.heap.size->Calls prog 211 #[.slice (some (z g)) l.length d] a λe w'=>e=.returned (.slice (some (z g)) (Lib.compact zs).length d)/\(∀(j:Nat)x,((Lib.compact zs).map (λl=>(⟨l.toArray⟩:ByteArray)))[j]?=some x->w'.cell? (O g (0+j))=some (.string x))/\aA (λk=>k=g) a w':=λa H B=>by
   have:=Tryz.slices_Compact_string g 0 d zs a H V V;rw[Q]at this;refine ψ this ?_;rintro e w'⟨rfl,S,rfl⟩;refine⟨rfl,λj x f=>?_, ?_⟩
   .have t:j<(Lib.compact zs).length:=by
     rcases Nat.lt_or_ge j (Lib.compact zs).length with h|h
     .exact h
     .rw[ϑq (by simpa using h)]at f;cases f
    have a3:=oz zs;have A:=cell?_putRow encStr (Sort.ahead a S) g 0 zs.toArray (Lib.compact zs++List.replicate (l.length-(Lib.compact zs).length) []).toArray H Θ j Θ;rw[A];rw[ϑG,σ t]at f;simp at f;subst f;have a4:j<(Lib.compact zs++List.replicate (l.length-(Lib.compact zs).length) ([]:List UInt8)).length:=Θ
    simp only[List.getElem!_toArray,List.getElem!_eq_getElem?_getD];rw[ε t,σ t];rfl
   .have:=DU encStr a S g 0 (Lib.compact zs++List.replicate (l.length-(Lib.compact zs).length) []).toArray #[];rw[grow_empty]at this;exact this
  have q:J<|∀b,(∀(j:Nat)x,((Lib.compact zs).map (λl=>(⟨l.toArray⟩:ByteArray)))[j]?=some x->b.cell? (O g (0+j))=some (.string x))->g<b.heap.size->Calls prog 210 #[.slice (some (z g)) (Lib.compact zs).length d,.string ⟨#[44]⟩] b λe w'=>e=.returned (.string ⟨(nJ (l.map ay)).toArray⟩)/\Below b.heap.size b w':=λb A C=>by
   have G:((Lib.compact zs).map (λl=>(⟨l.toArray⟩:ByteArray))).map (·.data.toList)=Lib.compact zs:=by rw[ϑK];exact(List.map_congr_left (λx _=>Ω)).trans (List.map_id _)
   have:=Tryz.strings_Join g 0 d ((Lib.compact zs).map (λl=>(⟨l.toArray⟩:ByteArray))) ⟨#[44]⟩ b A C (by have:=oz zs;simp;omega) (by have:=oz zs;simp;omega) (by rw[G];exact ς D V);rw[G,ϑh]at this;rw[<- E];exact this
  have r:J<|∀c,Calls prog 95 #[.string ⟨(nJ (l.map ay)).toArray⟩] c λe w'=>e=.returned (.string ⟨(nJ (l.map ay)).toArray⟩)/\Below c.heap.size c w':=λc=>uN _ c (by rw[E]at D;show(nJ (l.map ay)).toArray.size<=_;simp;omega);generalize nJ (l.map ay)=R at *;clear i u hh E D P F n;go_enter func148,ntmps148;go_wp2_with fail;refine ψ o.o ?_;rintro e a⟨rfl,M,K⟩;have T:=ω M;have B:=ο a6 K.size;clear M;go_wp2_with fail;refine ψ (p.o a T.o B) ?_;rintro e b⟨rfl,N,L⟩;have U:J<|_:=N;have C:=ο B L.size;clear N;go_wp2_with fail;refine ψ (q.o b U.o C) ?_;rintro e c⟨rfl,X⟩;go_wp2_with fail;refine ψ (r.o c) ?_;rintro e w4⟨rfl,Y⟩;go_wp2;go_ret;exact⟨rfl,(((K.trans L).below X).below Y).mono (λk _ hk=>by subst hk;rfl)⟩
end
section
open Go.Proofs.Tryz Go.RowKit Go.Maps Go.WideMaps Go.Shelf
def wu(p:Thk.Bs)(xs:List jB):Thk.Bs :=
 if(Thk.kindOf p).toNat=109 then nJ ((fC ⟨p.toArray⟩ xs).map ay)
 else if(Thk.kindOf p).toNat=102 then(if Aq ⟨p.toArray⟩ xs≠[]then [49]else [48])
 else if(Thk.kindOf p).toNat=99 then Lib.itoa (sumOf (Aq ⟨p.toArray⟩ xs))
 else nJ (((Aq ⟨p.toArray⟩ xs).map jB.v).map ay)
def Md{c:Type}{P:Program}{gf:Nat}{lb:Array Value}{encs:c->Array Value}{S:List c->Prop}{E:Nat->Prop}{w w':World}(h:Iter P gf lb encs S E w)(f:∀k,E k->k<w.heap.size)(b:Below w.heap.size w w'):Iter P gf lb encs S E w':=by intro l d e W a;exact h l d e W (dh.trans ⟨b.size,λk a=>b.block k (f k a)⟩ a)
structure DV(S:List jB->Prop):Prop where
 len:∀xs,S xs->xs.length<=1000
 ok:∀xs,S xs->∀x∈xs,x.p.size<=1000/\x.v.size<=1000/\-1000000000<=x.m/\x.m<=1000000000
def yO(c:UInt8):∀(l a:Thk.Bs),((Thk.bQ c a l).headD []).length<=a.length+l.length:=by
 intro l;induction l with
 | nil=>intro a;simp[Thk.bQ]
 | cons x r ih =>
  intro a;unfold Thk.bQ;split
  .simp
  .have:=ih (a++[x]);simp at this⊢;omega
def Me(p l:Thk.Bs):(jM p l).length<=l.length:=by unfold jM Thk.split;have:=yO 47 (l.drop (p.length+1)) [];simp at this⊢;omega
def Ji(p:ByteArray)(xs:List jB)(h:∀x∈xs,x.p.size<=1000):∀s∈fC p xs,s.size<=1000:=by
 intro s a;unfold fC at a;obtain⟨x,b,rfl⟩:=ι.1 a;have c:=h x (ϑf.1 b).1;have d:=Me (ay p) (ay x.p);have e:(ay x.p).length=x.p.size:=by show x.p.data.toList.length=_;simp
 show(jM (ay p) (ay x.p)).toArray.size<=1000;simp;omega
def ai8(w:World)(Z:Glob w)(p:ByteArray)(a5:p.size<=1048576)(a6:Thk.path (ay p)=true)(gf:Nat)(lb:Array Value)(S:List jB->Prop)(E:Nat->Prop)(a0:Iter prog gf lb (λx:jB=>#[Value.agg #[.string x.p,.int .u8 x.a,.string x.v,I x.m]]) S E w)(Y:∀N w,(callFunc gf N).run prog w=.ok (.enter gf N) w)(D:∀k,E k->k<w.heap.size)(F:DV S):Calls prog 86 #[.string p,.func (.func gf) #[] lb] w λe w'=>∃a,S a/\e=.returned (.string ⟨(wu (ay p) a).toArray⟩)/\Below w.heap.size w w':=by
 have a4:=Dj p;obtain⟨m,hm⟩:=Z.len;have K:J<|∀ab,Below w.heap.size w ab->Calls prog 149 #[.string p,.func (.func gf) #[] lb] ab λe w'=>∃G a,e=.returned G/\S a/\w'.ownsRow ab.heap.size 9 1 G (fC p a).length (tN (fC p a))/\Below ab.heap.size ab w':=λab ac=>by exact Ui ab m ((ac.cell (p:=(z 0)) (block_lt_of_cell hm)).trans hm) p a5 gf lb S E (Md a0 D ac) Y (λk g=>ο (D k g) ac.size) (λa c=>⟨F.len a c,λx n=>by have:=F.ok a c x n;omega⟩)
 have A:J<|∀ab,Below w.heap.size w ab->∀P,P=(ab.alloc (.cells #[.string p] 82)).alloc (.cells #[.func (.func gf) #[] lb] 150)->Iter prog 213 #[.pointer (some (z (ab.heap.size+1))),.pointer (some (z ab.heap.size))] (λx:jB=>#[Value.agg #[.string x.p,.int .u8 x.a,.string x.v,I x.m]]) (Xv S p) (λk=>k=ab.heap.size+1\/k=ab.heap.size\/E k) P/\(∀k,(k=ab.heap.size+1\/k=ab.heap.size\/E k)->k<P.heap.size)/\Below ab.heap.size ab P:=λab ac P o=>by
  subst o;have d:Below ab.heap.size ab ((ab.alloc (.cells #[.string p] 82)).alloc (.cells #[.func (.func gf) #[] lb] 150)):=((φ _ ab).alloc (χ _) _).alloc Ω _;have kf:=aC.new (ab.alloc (.cells #[.string p] 82)) #[.func (.func gf) #[] lb] 150;rw[ϊ]at kf;refine⟨PZ _ (ab.heap.size+1) ab.heap.size p gf lb S E (Md a0 D (ac.trans (d.mono ac.size))) Y (λk g=>ο (ο (D k g) ac.size) d.size) kf ((aC.new ab _ _).alloc _), ?_,d⟩;rintro k (rfl|rfl|g)
  .simp
  .simp;omega
  .exact ο (ο (D k g) ac.size) d.size
 have W:J<|_:=KA p w a5 a6;have M:J<|DV (Xv S p):=by
  refine⟨λa c=>?_,λa c x n=>?_⟩
  .obtain⟨q,o,rfl⟩:=c;exact ς (List.length_filter_le _ _) (F.len q o)
  .obtain⟨q,o,rfl⟩:=c;exact F.ok q o x (ϑf.1 n).1
 have HS:=ω F;have HG:=ω Z;have a3:∀N w,(callFunc 213 N).run prog w=.ok (.enter 213 N) w:=enters_of func213 (by kernel_rfl) rfl;have X:J<|_:=a3;obtain⟨l,a1⟩:∃l,l=(Thk.kindOf (ay p)).toNat:=⟨_,rfl⟩;have t:J<|∀a,wu (ay p) a=if l=109 then nJ ((fC p a).map ay)else if l=102 then(if Aq p a≠[]then [49]else [48])else if l=99 then Lib.itoa (sumOf (Aq p a))else nJ (((Aq p a).map jB.v).map ay):=λa=>by unfold wu;rw[a4,a1]
 rw[<- a1]at W;clear a0 Y D F Z hm a4 a3 a1;go_enter func86,ntmps86;go_wp2_with fail;refine ψ W.o ?_;rintro e H⟨rfl,rfl⟩;clear W;by_cases R:l=109
 .subst R;have f:=t.o;simp only[if_true]at f;have r:J<|_:=f;clear f t;go_wp2_with fail;refine ψ (K.o _ (φ _ _)) ?_;rintro e ad⟨G,a,rfl,c,C,d⟩;have L:J<|_:=Mc ad _ G (fC p a) C (ς (Ar p a) (HS.o.len a c)) (Ji p a (λx n=>(HS.o.ok a c x n).1));have a2:=λk g=>(C.lt k g).1;clear C K A;go_wp2_with fail;refine ψ L.o ?_;rintro e T⟨rfl,j⟩;clear L;go_wp2_with fail;go_ret;refine⟨a,c,by rw[r.o a];rfl,d.trans ⟨j.os,j.tape,j.output,j.size,λk g=>j.block k (ο g d.size) (λe=>by have:=a2 k e;omega)⟩⟩
 .have a8:((l:Int)==109)=false:=ό.2 V;by_cases k2:l=102
  .subst k2;have f:=t.o;simp only[R,if_false,if_true]at f;have r:J<|∀a,wu (ay p) a=if Aq p a≠[]then [49]else [48]:=f;clear f t;go_wp2_with fail;refine ψ (DN H p gf lb) ?_;rintro e ad⟨rfl,y⟩;obtain⟨u,v,d⟩:=A.o H (φ _ _) ad y;have ae:J<|_:=Xw ad _ _ _ _ u X.o v;have i:=ω d;clear u v d y A K;go_wp2_with fail;refine ψ ae.o ?_;rintro e T⟨q,b,rfl,⟨a,c,rfl⟩,ac,B⟩;have Q:=ω ac;clear ac ae;cases b with
   | true =>
    have U:=ω<|Q.o.1 rfl
    clear Q;go_wp2_with fail;go_ret;exact⟨a,c,by rw[r.o a,ώ U.o];rfl,i.o.trans (B.mono i.o.size)⟩
   | false =>
    have U:J<|¬(Aq p a≠[]):=λh=>by have:=Q.o.2 h;cases this
    clear Q;go_wp2_with fail;go_ret;exact⟨a,c,by rw[r.o a,ύ U.o];rfl,i.o.trans (B.mono i.o.size)⟩
  .have a9:((l:Int)==102)=false:=ό.2 V;by_cases k3:l=99
   .subst k3;have f:=t.o;simp only[R,k2,if_false,if_true]at f;have r:=ω f;clear f t;go_wp2_with fail;refine ψ (DN H p gf lb) ?_;rintro e ad⟨rfl,y⟩;obtain⟨u,v,d⟩:=A.o H (φ _ _) ad y;have ae:J<|_:=Xy ad (HG.o.mono d) _ _ _ _ u X.o v (λa c=>⟨M.o.len a c,λx n=>by have:=M.o.ok a c x n;omega⟩);have i:=ω d;clear u v d y A K;go_wp2_with fail;refine ψ ae.o ?_;rintro e T⟨q,rfl,⟨a,c,rfl⟩,B⟩;clear ae;go_wp2_with fail;go_ret;exact⟨a,c,by rw[r.o a];rfl,i.o.trans (B.mono i.o.size)⟩
   .have aa:((l:Int)==99)=false:=ό.2 V;have f:=t.o;simp only[R,k2,k3,if_false]at f;have r:=ω f;clear f t;go_wp2_with fail;refine ψ (DN H p gf lb) ?_;rintro e ad⟨rfl,y⟩;obtain⟨u,v,d⟩:=A.o H (φ _ _) ad y;have ae:J<|_:=Jf ad _ _ _ _ u X.o v M.o.len;have i:=ω d;clear u v d y A K;go_wp2_with fail;refine ψ ae.o ?_;rintro e T⟨G,q,rfl,o,C,B⟩;have L:J<|_:=Mc T _ G (q.map jB.v) (by rw[ϑh];exact C) (by rw[ϑh];exact M.o.len q o) (λs hs=>by obtain⟨x,n,rfl⟩:=ι.1 hs;exact(M.o.ok q o x n).2.1);have a2:=λk g=>(C.lt k g).1;obtain⟨a,c,rfl⟩:=o;have MC:=i.o.trans (B.mono i.o.size);have a7:=i.o.size;clear C ae B;go_wp2_with fail;refine ψ L.o ?_;rintro e w4⟨rfl,j⟩;clear L;go_wp2_with fail;go_ret;refine⟨a,c,by rw[r.o a,ϑK];rfl,MC.trans ⟨j.os,j.tape,j.output,j.size,λk g=>j.block k (ο g MC.size) (λe=>by have:=a2 k e;omega)⟩⟩
def MF(w:World)(k:Glob w)(rb a:Nat)(io co lo:Option Nat)(K:Nat->Nat)(C:Nat->Option Thk.Ch)(l:vH w rb a io co lo K C)(m:DV (ny (aU C)))(p:ByteArray)(t:p.size<=1048576)(s:Thk.path (ay p)=true):Calls prog 37 #[.pointer (some (z rb)),.string p] w λe w'=>∃b,ny (aU C) b/\e=.returned (.string ⟨(wu (ay p) b).toArray⟩)/\Below w.heap.size w w':=by
 have h:J<|∀g,g=w.alloc (.cells #[.pointer (some (z rb))] 78)->Calls prog 86 #[.string p,.func (.func 154) #[] #[.pointer (some (z w.heap.size))]] g λe w'=>∃b,ny (aU C) b/\e=.returned (.string ⟨(wu (ay p) b).toArray⟩)/\Below w.heap.size w w':=λg f=>by
  subst f;have c:Below w.heap.size w (w.alloc (.cells #[.pointer (some (z rb))] 78)):=(φ _ w).alloc (χ _) _;have d:=l.below c;refine ψ (ai8 _ (k.mono c) p t s _ _ (ny (aU C)) _ (L6 _ w.heap.size rb a io co lo K C (aC.new w _ _) d) (enters_of func154 (by kernel_rfl) rfl) ?_ m) ?_
  .rintro u (rfl|rfl|r)
   .simp
   .exact d.blk.lt
   .exact d.st.lt u (τ (by rw[r]))
  .rintro e w'⟨b,o,rfl,q⟩;exact⟨b,o,rfl,c.trans (q.mono c.size)⟩
 have j:J<|_:=alive_any w rb;clear l m k;go_enter func37,ntmps37;go_wp2_with fail;refine ψ j.o ?_;rintro e v⟨rfl,n⟩;have i:J<|_:=h.o v n;clear h j n;go_wp2_with fail;refine ψ i.o ?_;rintro e x⟨b,f,rfl,c⟩;clear i;go_wp2_with fail;go_ret;exact⟨b,f,rfl,c⟩
