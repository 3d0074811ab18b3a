import Derived.Shelf.SlSortCmp.NoneTotal
import Derived.Test.YtfmmllpjgkgeaabGreatDoorZ08
import Derived.Test.YtfmmllpjgkgeaabGreatDoorZ11
set_option linter.all false
set_option maxHeartbeats 0
set_option maxRecDepth 100000
namespace Go.Proofs.YtfmmllpjgkgeaabGreatDoor
section
open Go.Proofs.Tryz Go.RowKit Go.Maps Go.WideMaps Go.Shelf
attribute [local go_sem] Oper.semAt_some
def Tryz.infoDot:(prog.info? 140).map (λi=>(i.zero,i.size,i.bytes))=some (some (.agg #[I 0,I 0]),2,16):=by kernel_rfl
def bK(ns:List Nat):List Value:=ns.flatMap λn:Nat=>[I (who n),I (nth n)]
def sH(ns:List Nat)(n:Nat):bK (ns++[n])=bK ns++[I (who n),I (nth n)]:=by simp[bK]
def Fh(w:World)(gf:Nat)(lb:Array Value)(S:List Nat->Prop)(E:Nat->Prop)(U:Iter prog gf lb (λn:Nat=>#[Value.agg #[I (who n),I (nth n)]]) S E w)(L:∀t w,(callFunc gf t).run prog w=.ok (.enter gf t) w)(ac:∀k,E k->k<w.heap.size)(M:∀e,S e->e.length<=4000):Calls prog 257 #[.slice none 0 0,.func (.func gf) #[] lb] w λK w'=>∃v e,K=.returned v/\S e/\w'.ownsRow w.heap.size 140 2 v e.length (bK e)/\Below w.heap.size w w':=by
 obtain⟨i0,R,a2,a3,a4⟩:=info_parts Tryz.infoDot;refine(callsIn_wide (n:=3)).1 ?_;refine callsIn_of_wp_marks func257 rfl trivial ?_ rfl;simp only[ntmps257,List.size_toArray,δ,List.length_nil,Nat.reduceAdd,Nat.reduceSub,Array.replicate_succ,Array.replicate_zero,List.push_toArray,List.append_toArray,List.nil_append,List.cons_append];gi_wp2;have g:Below w.heap.size w (w.alloc (.cells #[.slice none 0 0] 143)):=(φ _ w).alloc (χ _) _;refine iO (gf:=gf) (lb:=lb) rfl L U ⟨g.size,λk a=>g.block k (ac k a)⟩ (λk a=>ο (ac k a) g.size) (λ_=>rfl)
  (λT b W=>Coll w w.heap.size 143 140 2 (bK b) b.length T W) (λ_ _ _ _=>False)
  (λT T' b W W' h P d=>h.nS P d) (λ_ _ _ _ _ _ h _ _=>h)
  ⟨_,Boxed.new w _ _,ϑj _ _ _ _,λh=>h,λ_ _ h=>h,g,λ_ h=>h.elim,χ _⟩ ?round ?done ?stop
 case round =>
  rintro l T b n W a6 d⟨v,ab⟩ KL ⟨ys,a1,a0⟩;have aa:b.length+1<=4000:=by have:=M ys a1;have:=a0.length_le;simp at this;omega
  gi_wp2;refine⟨⟨Ω,λk a=>?_⟩, ?_⟩
  .exact((φ _ W).alloc (χ _) _).block k (a.elim (λh=>ο (ο (ac k h) g.size) (by have:=ab.bx.lt;have:=ab.below.size;simp;omega)) (λh=>(d k h).2))
  intro f p C hE2;have A:∀k,T k->k<f.heap.size:=λk a=>by rw[C];have:=(d k a).2;simp;omega
  have j:=ab.nS ((aA.of_below ((φ _ W).alloc (χ _) _)).trans p) (λk a=>⟨τ a,A k a⟩);have q:aC f W.heap.size #[I (who n),I (nth n)] 140:=(aC.new W _ _).aJ p (λa=>by have:=(d _ a).2;omega);have H:=j.bx.cell;have d0:=(q.cell 0).trans rfl;have d1:=(q.cell 1).trans rfl;have s:=ω j;have a7:=j.below.size;have Z:J<|b.length+1<=maxLen:=by unfold J maxLen;omega
  have Y:J<|(b.length+1)*16<=140737488355328:=ω V
  have G:J<|∀o u,([I (who n),I (nth n)]:List Value)[o]?=some u->(f.alloc (.cells #[I (who n),I (nth n)] 140)).cell? (((z f.heap.size):Addr).add o)=some u:=λo u i=>by
   match o,i with
   | 0,i=>cases i;simp[Addr.add]
   | 1,i=>cases i;simp[Addr.add]
  clear ab j q p hE2 C;gi_wp2_with (first|(gi_at_builtin;refine wpListIn_append_own_at _ rfl (.tmp 8) (.tmp 10) 143 rfl w.heap.size 140 i0 (.agg #[I 0,I 0]) 2 16 underlying143 R a2 a3 a4 rfl Ψ v b.length (bK b) rfl (s.o.row.alloc _) (z f.heap.size) 1 1 [I (who n),I (nth n)] rfl rfl G.o (by simp[Value.oneCell']) Z.o Y.o Θ ?_;intro v' w1 B Q _ X;have m:=s.o.app (E:=E) Ψ B Q X A ac;obtain⟨g',a5,rfl⟩:=ownsRow_succ B;have a8:=m.1.cell;have a9:=m.1.frozen));refine⟨?_,m.2.2⟩;have x:=m.2.1;rw[<- sH]at x;exact⟨_,by rw[ρ];exact x⟩
 case done =>
  rintro D T xs W hD F N⟨v,ab⟩ d y;have H:=ab.bx.cell;have r:=ω ab;clear ab;gi_wp2;refine⟨Ω,.inl ⟨_,_,rfl,run_takeDeferred y, ?_⟩⟩;refine⟨_,results_tmp rfl _ _ _,v,xs,rfl,N, ?_, ?_⟩
  .exact ownsRow_putObj r.o.row _ y rfl
  .have:=(r.o.nS (T':=T) (eF W D (.deferred none) F) (λk a=>⟨τ a,by rw[dL];exact(d k a).2⟩)).below;exact this
 case stop =>rintro D T c b W _ _ h;exact h.elim
end
section
open Go.Proofs.Tryz Go.RowKit Go.Maps Go.WideMaps Go.Shelf Go.Sort
def wQ:∀(ns:List Nat)(i:Nat)(h:i<ns.length),(bK ns)[i*2]?=some (I (who ns[i]))/\(bK ns)[i*2+1]?=some (I (nth ns[i])):=by
 intro ns;induction ns with
 | nil=>intro i h;simp at h
 | cons n r ih =>
  intro i h;have e:bK (n::r)=[I (who n),I (nth n)]++bK r:=rfl;rw[e];cases i with
  | zero=>exact⟨rfl,rfl⟩
  | succ i =>have:=ih i (by simpa using h);rw[show(i+1)*2=i*2+2 by omega];exact⟨by rw[ϋ Ω];simpa using this.1,by rw[ϋ Ω];simpa using this.2⟩
def zy(n:Nat):List Value:=[I (who n),I (nth n)]
def C9{w:World}{base g i:Nat}{ns:List Nat}(h:w.ownsRow base 140 2 (.slice (some (z g)) ns.length i) ns.length (bK ns)):HoldsK zy 2 w g 0 ns.toArray:=by
 intro j a;rw[size_flatK]at a;simp at a;have m:w.frozen? (O g (0+j))=false:=by
  obtain⟨_,⟨l,_⟩|⟨q,o,p,f,_,n,_⟩⟩:=h
  .cases l
  .simp only[ϑa,ϑb,ϑz,ϑM,ϑN]at f;obtain⟨rfl,rfl⟩:=f;simp[World.frozen?,n]
 refine⟨?_,m⟩;rw[get_flatK _ _ _ _ (by simpa using a),Nat.zero_add,h.cellAt j a];have d:j / 2<ns.length:=V
 have c:=wQ ns (j / 2) d;have k:ns.toArray[j / 2]! = ns[j / 2]:=by simp[d]
 rw[k];rcases Nat.mod_two_eq_zero_or_one j with b|b
 .have e:j=j / 2*2:=V
  rw[b]
  conv=>lhs;rw[e]
  rw[c.1];(first|done|rfl)
 .have e:j=j / 2*2+1:=V
  rw[b]
  conv=>lhs;rw[e]
  rw[c.2];(first|done|rfl)
def QS(x y:Nat):ltOf (λx y:Nat=>Lib.compareInt x y) x y=decide (x<y):=by
 unfold ltOf Lib.compareInt;by_cases b:(x:Int)<y
 .have:x<y:=V
  simp[this]
 .have a:¬x<y:=V
  by_cases c:(y:Int)<x
  .have:y<x:=V
   simp[a,this]
  .have:¬y<x:=V
   simp[a,this]
def ag8:SWO (ltOf λx y:Nat=>Lib.compareInt x y):={
 irrefl x:=by rw[QS];simp
 trans x y z h1 h2:=by rw[QS]at *;simp at *;omega
 ntrans x y z h1 h2:=by rw[QS]at *;simp at *;omega }
def OU(a b size:Nat)(w:World):CmpLays prog 198 #[] zy 2 (λx y:Nat=>Lib.compareInt x y) a b size w :=
 λ_ _ _ _ x y=>KI _ x y
def Tryz.isAggDot(w:World):(isAgg 140).run prog w=.ok true w:=by kernel_rfl
def Tryz.sizeOfDot(w:World):(Go.sizeOf 140).run prog w=.ok 2 w:=by kernel_rfl
def Bc{c:Type} [Inhabited c] (e:c->List Value) (k:Nat) (w:World) (a f m:Nat) (d:Array c) (g:Array Obj):aA (λb=>b=a) w (sortWorldK e k w a f m d g):=by refine⟨rfl,rfl,rfl,size_sortWorldK_c e k w a f m d g,λb i j=>?_⟩;unfold sortWorldK;rw[heap_grow_old _ _ (by simp[putRowK,putRow,mapBlock,Sort.ahead];exact i)];simp only[putRowK,putRow,mapBlock,Sort.ahead];rw[μ];rw[ύ (λh=>j (Eq.symm h))]
def yj(w:World)(base:Nat)(v:Value)(ns:List Nat)(t:w.ownsRow base 140 2 v ns.length (bK ns))(W:ns.length<=4000):Calls prog 226 #[v,.func (.func 198) #[] #[]] w λe b=>e=.returned (.tuple #[])/\∃p,p.Perm ns/\dN b v p/\aA (λk=>v.ownBlock=some k) w b/\p.Pairwise (·<=·):=by
 have u:=t;obtain⟨X,⟨rfl,M⟩|⟨g,s,S,rfl,T,U,N,_⟩⟩:=t
 .have P:=ϑr M;subst P;refine ψ (AnyF.slices_SortFunc_none Tryz.sortDot none 0 _ w) ?_;rintro e b⟨rfl,rfl⟩;exact⟨rfl,[],List.Perm.refl _,τ ⟨rfl,rfl⟩,aA.refl _ _,List.Pairwise.nil⟩
 .have x:=C9 u;have l:=(u.lt g rfl).2;have G:=AnyQ.slices_SortFunc Tryz.sortDot 2 Tryz.isAggDot Tryz.sizeOfDot zy (λ_=>rfl) (λF v D=>by simp[zy]at D;rcases D with rfl|rfl<;>rfl) (λF R:Nat=>Lib.compareInt F R) ag8 198 #[] g 0 s ns.toArray w (enters_of func198 (by kernel_rfl) rfl) (OU g 0 _ w) x l Θ;refine ψ G ?_;rintro e b⟨rfl,d',m,E,⟨o,_,B⟩,Q,rfl⟩;have y:=holdsK_sortWorldK zy 2 w g 0 m ns.toArray d' E l x o;have C:d'.toList.Perm ns:=by
   have d:(d'.extract 0 ns.toArray.size)=d':=by rw[<- o];exact Array.extract_size
   have f:(ns.toArray.extract 0 ns.toArray.size)=ns.toArray:=Array.extract_size;rw[d,f]at B;simpa using B
  have A:=C.length_eq;refine⟨rfl,d'.toList,C,υ ⟨g,0,s,by rw[A],by rw[A];exact N,lt_sortWorldK _ _ _ _ _ _ _ _ l,λj a=>?_⟩,(Bc zy 2 w g 0 m d' E).mono (λk _ L=>by subst L;rfl), ?_⟩
  rotate_left
  .refine List.pairwise_iff_getElem.2 λi j H a K=>?_;have h:=Q i j (Nat.zero_le _) K (by rw[<- o];simpa using a);rw[QS]at h;have d:d'[i]! = d'.toList[i]:=by simp[show i<d'.size by simpa using H]
   have f:d'[j]! = d'.toList[j]:=by simp[show j<d'.size by simpa using a]
   rw[d,f]at h;simp only[decide_eq_false_iff_not]at h;omega
  have n:j<d'.size:=by simpa using a
  have q:=(y.cell n (c:=0) V).1;have r:=(y.cell n (c:=1) V).1;have e:d'[j]! = d'.toList[j]:=by simp[n]
  rw[e]at q r;exact⟨q,r⟩
def Af(w:World)(gf:Nat)(lb:Array Value)(S:List Nat->Prop)(E:Nat->Prop)(l:Iter prog gf lb (λn:Nat=>#[Value.agg #[I (who n),I (nth n)]]) S E w)(d:∀c w,(callFunc gf c).run prog w=.ok (.enter gf c) w)(i:∀k,E k->k<w.heap.size)(j:∀a,S a->a.length<=4000):Calls prog 225 #[.func (.func gf) #[] lb] w λe w'=>∃v a,e=.returned v/\S a/\w'.ownsRow w.heap.size 140 2 v a.length (bK a)/\Below w.heap.size w w':=by have b:J<|_:=Fh w gf lb S E l d i j;clear l d i j;go_enter func225,ntmps225;go_wp2_with fail;refine ψ b.o ?_;rintro e m⟨v,a,rfl,f,g,h⟩;have o:J<|S a/\m.ownsRow w.heap.size 140 2 v a.length (bK a)/\Below w.heap.size w m:=⟨f,g,h⟩;clear f g h b;go_wp2;go_ret;exact⟨v,a,rfl,o.o⟩
def Dc(w:World)(gf:Nat)(lb:Array Value)(It:Nat->Option Value)(E:Nat->Prop)(t:Iter prog gf lb (λn:Nat=>#[Value.agg #[I (who n),I (nth n)]]) (AllOf It) E w)(m:∀l w,(callFunc gf l).run prog w=.ok (.enter gf l) w)(s:∀k,E k->k<w.heap.size)(F:∀n,It n≠none->okD n):Calls prog 196 #[.func (.func gf) #[] lb,.func (.func 198) #[] #[]] w λe w'=>∃v a,e=.returned v/\AllOf It a/\dN w' v a/\(∀b,v.ownBlock=some b->w.heap.size<=b)/\Below w.heap.size w w':=by
 have f:∀a,AllOf It a->a.length<=4000:=λa o=>by have:=lI 3072 a o.1 (λn D=>ng (F n ((o.2 n).1 D)));omega
 have A:=ω f;have j:J<|_:=Af w gf lb (AllOf It) E t m s f;clear t m s f;go_enter func196,ntmps196;go_wp2_with fail;refine ψ j.o ?_;rintro e i⟨v,a,rfl,p,q,r⟩;have c:J<|AllOf It a/\i.ownsRow w.heap.size 140 2 v a.length (bK a)/\Below w.heap.size w i:=⟨p,q,r⟩;clear p q r j;go_wp2_with fail;refine ψ (yj i _ v a c.o.2.1 (A.o a c.o.1)) ?_;rintro e x⟨rfl,h,g,u,d,_⟩;have y:J<|AllOf It h/\dN x v h/\(∀b,v.ownBlock=some b->w.heap.size<=b)/\Below w.heap.size w x:=⟨⟨g.nodup_iff.2 c.o.1.1,λn=>(g.mem_iff).trans (c.o.1.2 n)⟩,u,λb B=>(c.o.2.1.lt b B).1,c.o.2.2.trans ⟨d.os,d.tape,d.output,d.size,λk C=>d.block k (ο C c.o.2.2.size) (λe=>by have:=(c.o.2.1.lt k e).1;omega)⟩⟩;clear g u d c;go_wp2;go_ret;exact⟨v,h,rfl,y.o⟩
def IL(w:World)(io co lo:Option Nat):Calls prog 140 #[.agg #[.map io,.map co,.map lo]] w λe a=>e=.returned (.func (.func 195) #[] #[.pointer (some (z w.heap.size))])/\a=w.alloc (.cells #[.map io,.map co,.map lo] 101):=by go_enter func140,ntmps140;go_wp2;go_ret;exact⟨rfl,rfl⟩
end
section
open Go.Proofs.Tryz Go.RowKit Go.Maps Go.WideMaps Go.Shelf
attribute [local go_sem] Oper.semAt_some
structure jB where
 n:Nat
 p:ByteArray
 a:Int
 v:ByteArray
 m:Int
noncomputable def Fj(It:Nat->Option Value)(n:Nat):jB:=@dite _ (∃x:jB,x.n=n/\It n=some (.agg #[.string x.p,.int .u8 x.a,.string x.v,I x.m])) (Classical.propDecidable _) (λh=>Classical.choose h) (λ_=>⟨n,⟨#[]⟩,0,⟨#[]⟩,0⟩)
def Wp(It:Nat->Option Value)(n:Nat):(Fj It n).n=n:=by
 unfold Fj;split
 .rename_i h;exact(Classical.choose_spec h).1
 .rfl
def Wq{It:Nat->Option Value}{n:Nat}{v:Value}(h:It n=some v)(b:Ad v):It n=some (.agg #[.string (Fj It n).p,.int .u8 (Fj It n).a,.string (Fj It n).v,I (Fj It n).m]):=by obtain⟨c,e,d,f,rfl⟩:=b;unfold Fj;have a:∃x:jB,x.n=n/\It n=some (.agg #[.string x.p,.int .u8 x.a,.string x.v,I x.m]):=⟨⟨n,c,e,d,f⟩,rfl,h⟩;rw[dif_pos a];exact(Classical.choose_spec a).2
def ny(It:Nat->Option Value)(xs:List jB):Prop:=AllOf It (xs.map jB.n)/\∀x∈xs,It x.n=some (.agg #[.string x.p,.int .u8 x.a,.string x.v,I x.m])
def QT{It:Nat->Option Value}{ns:List Nat}(h:AllOf It ns)(c:∀n v,It n=some v->Ad v):ny It (ns.map (Fj It)):=by
 refine⟨?_,λx d=>?_⟩
 .have e:(ns.map (Fj It)).map jB.n=ns:=by rw[ϑK];exact(List.map_congr_left (λn _=>Wp It n)).trans (List.map_id _)
  rw[e];exact h
 .obtain⟨n,b,rfl⟩:=ι.1 d;obtain⟨v,a⟩:=Option.ne_none_iff_exists'.1 ((h.2 n).1 b);rw[Wp];exact Wq a (c n v a)
def zA(w0:World)(e:Nat)(io co lo:Option Nat)(It:Nat->Option Value)(N:Nat)(c:aC w0 e #[.map io,.map co,.map lo] 101)(hM:dQ prog 140 w0 (.map io) N (im It))(P:∀n,It n≠none->okD n)(hv:∀n v,It n=some v->Ad v):Iter prog 195 #[.pointer (some (z e))] (λx:jB=>#[aW x.n,Value.agg #[.string x.p,.int .u8 x.a,.string x.v,I x.m]]) (ny It) (λk=>k=e\/io=some k) w0:=by
 intro l E Jx W hE hJ b5 hY h0;have M:aC W e #[.map io,.map co,.map lo] 101:=(hE.2 e (τ rfl)).trans c;have c0:W.cell? (z e)=some (.map io):=(M.cell 0).trans rfl;have F:dQ prog 140 W (.map io) N (im It):=by
  rcases hM with h|⟨b,u,h⟩
  .exact τ h
  .exact υ ⟨b,u,h.block (hE.2 b (υ (by cases u;rfl)))⟩
 have ar:∀k,(k=e\/io=some k)->k<W.heap.size:=by
  rintro k (rfl|h)
  .exact M.lt
  .exact F.lt k (by rw[h])
 clear hM c;have a4:J<|_:=Wj W io;have a5:J<|∀o,o=W.alloc (.cells #[.map io] 95)->Calls prog 196 #[.func (.func 227) #[] #[.pointer (some (z W.heap.size))],.func (.func 198) #[] #[]] o λb8 w'=>∃v a,b8=.returned v/\AllOf It a/\dN w' v a/\(∀b,v.ownBlock=some b->W.heap.size<=b)/\Below W.heap.size W w':=λo hx=>by
  subst hx;have u:Below W.heap.size W (W.alloc (.cells #[.map io] 95)):=(φ _ W).alloc (χ _) _;refine ψ (Dc _ _ _ It _ (OQ _ W.heap.size io It N (aC.new W _ _) (F.below u) P) (enters_of func227 (by kernel_rfl) rfl) ?_ P) ?_
  .rintro k (rfl|h)
   .simp
   .have:=ar k (υ h);simp;omega
  .rintro b8 w'⟨v,a,rfl,b9,t,ba,r⟩;exact⟨v,a,rfl,b9,t,λb K=>by have:=ba b K;simp at this;omega,u.trans (r.mono Ω)⟩
 refine callsIn_of_wp func195 rfl trivial ?_ rfl;simp only[ntmps195,List.size_toArray,δ,List.length_nil,Nat.reduceAdd,Nat.reduceSub,Array.replicate_succ,Array.replicate_zero,List.push_toArray,List.append_toArray,List.nil_append,List.cons_append];gi_wp2_with fail;refine⟨trivial,(callsIn_wide.2 a4.o).mono ?_⟩;rintro b8 w1⟨rfl,rfl⟩;gi_wp2_with fail;refine⟨trivial,(callsIn_wide.2 (a5.o _ rfl)).mono ?_⟩;rintro b8 w2⟨v,a,rfl,A,m,ax,L⟩;obtain⟨T,Z⟩:∃T:Nat->Prop,T=λk=>v.ownBlock=some k:=⟨_,rfl⟩;have a8:∀k,T k->k<w2.heap.size:=λk c=>by
  rw[Z]at c;rcases m with⟨rfl,_⟩|⟨b,a1,cap,rfl,_,ba,_⟩
  .cases c
  .cases c;exact ba
 have a6:E T [] w2:=hJ _ _ _ _ _ h0 (aA.of_below L) (λk c=>⟨υ (by rw[Z]at c;exact ax k c),a8 k c⟩);have aw:∃H cap,v=.slice H a.length cap/\a.length<=cap:=by
  rcases m with⟨rfl,rfl⟩|⟨b,a1,cap,rfl,t,_⟩
  .exact⟨none,0,rfl,χ _⟩
  .exact⟨_,cap,rfl,t⟩
 obtain⟨H,cap,IQ,b6⟩:=aw;have b2:=lI 3072 a A.1 (λn hn=>ng (P n ((A.2 n).1 hn)));have a2:=ω a6;have D:J<|aC w2 e #[.map io,.map co,.map lo] 101/\dQ prog 140 w2 (.map io) N (im It)/\dN w2 v a:=⟨M.below L,F.below L,m⟩;clear a6 m L a5 a4 M F c0;subst IQ;gi_wp2_with fail
 gi_loopg [10] a.length (λg b1 o=>∃i:Nat,i+g=a.length/\b1=I i/\E T ((a.take i).map (Fj It)) o/\aC o e #[.map io,.map co,.map lo] 101/\dQ prog 140 o (.map io) N (im It)/\dN o (.slice H a.length cap) a/\w2.heap.size<=o.heap.size)
 case atStart=>exact⟨0,V,rfl,a2.o,D.o.1,D.o.2.1,D.o.2.2,χ _⟩
 case round =>
  obtain⟨i,b7,rfl,a7,aa,ae,m,b3⟩:=hrel;have a3:=ω a7;have B:J<|aC wr e #[.map io,.map co,.map lo] 101/\dQ prog 140 wr (.map io) N (im It)/\dN wr (.slice H a.length cap) a:=⟨aa,ae,m⟩;clear a2 D a7 aa ae;by_cases y:i<a.length
  .obtain⟨b,a1,b4,ag,_,u,a0⟩:=m.resolve_left (λh=>by rw[h.2]at y;simp at y);simp only[ϑa]at ag;obtain⟨rfl,_,rfl⟩:=ag;have k0:=(a0 i y).1;have k1:=(a0 i y).2;clear m a0;have ad:=κ y;have a9:=ν y;obtain⟨vi,af⟩:=Option.ne_none_iff_exists'.1 ((A.2 _).1 ad);have Aa:=Wq af (hv _ _ af);have ab:=Wp It a[i];have ai:=P _ ((A.2 _).1 ad);have av:∃ys,ny It ys/\(a.take i).map (Fj It)++[Fj It a[i]] <+: ys:=⟨a.map (Fj It),QT A hv,by rw[<- List.map_singleton,<- ϑF,<- a9];exact(List.take_prefix _ _).map _⟩;have fD:J<|(a.take (i+1)).map (Fj It)=(a.take i).map (Fj It)++[Fj It a[i]]:=by show _=_;rw[a9,ϑF];(first|done|rfl)
   generalize a[i]=n at *;generalize Fj It n=x at *;obtain⟨d,R,U,S,X⟩:=x;simp only at ab Aa;subst ab;gi_wp2_with fail;have Q:aC (wr.alloc (.cells #[I (who d),I (nth d)] 140)) wr.heap.size #[I (who d),I (nth d)] 140:=aC.new wr _ _;have s:Below wr.heap.size wr (wr.alloc (.cells #[I (who d),I (nth d)] 140)):=(φ _ wr).alloc (χ _) _;generalize wr.alloc (.cells #[I (who d),I (nth d)] 140)=f at *;have d0:f.cell? (z wr.heap.size)=some (I (who d)):=(Q.cell 0).trans rfl;have d1:f.cell? (O wr.heap.size 1)=some (I (nth d)):=(Q.cell 1).trans rfl;have ah:f.cell? (z e)=some (.map io):=((B.o.1.below s).cell 0).trans rfl;obtain⟨kl,aq⟩:=keyE d (by have:=ai.1;omega);have ac:(Instr.lookup 95 (.map io) (.agg #[I (who d),I (nth d)]) false).run prog f.drew=.ok (.agg #[.string R,.int .u8 U,.string S,I X]) f.drew:=by have b9:=((B.o.2.1.below s).below (φ _ f).drew).look jE underlying95 (zCh _) aq;rw[jh,Aa]at b9;exact b9
   have an:E T ((a.take i).map (Fj It)) f.drew:=hJ _ _ _ _ _ a3.o (aA.of_below (s.drew)) (λk c=>⟨τ c,by have:=a8 k c;have:=s.size;show k<f.heap.size;omega⟩);obtain⟨fn,b0,aj,ak,hy,Tc⟩:=hY T _ ⟨d,R,U,S,X⟩ _ an av;try dsimp only at hy
   have Y:RoundIn Fence.wide 3 prog l fn b0 aj ak f.drew λb8 G=>∃C:Bool,b8=.returned (.bool C)/\(C=true->E T ((a.take i).map (Fj It)++[⟨d,R,U,S,X⟩]) G/\dh (λk=>(k=e\/io=some k)\/T k) f.drew G)/\(C=false->Jx T ((a.take i).map (Fj It)++[⟨d,R,U,S,X⟩]) G):=Tc.mono (by
    rintro b8 G (⟨rfl,b9,t⟩|⟨rfl,b9,_⟩)
    .exact⟨true,rfl,λ_=>⟨b9,t⟩,λh=>by cases h⟩
    .exact⟨false,rfl,(λh=>by cases h),λ_=>b9⟩)
   have HK:J<|∀p,dh (λk=>(k=e\/io=some k)\/T k) f.drew p->aC p e #[.map io,.map co,.map lo] 101/\dQ prog 140 p (.map io) N (im It)/\dN p (.slice (some (O b a1)) a.length cap) a/\w2.heap.size<=p.heap.size:=λp c=>by
    have e1:=B.o.1.below s;have e2:=B.o.2.1.below s;have e3:=B.o.2.2.below s;refine⟨(c.2 e (τ (τ rfl))).trans e1, ?_, ?_,by have:=c.1;have:=s.size;simp only[World.drew]at *;omega⟩
    .rcases e2 with h|⟨q,K,h⟩
     .exact τ h
     .exact υ ⟨q,K,h.block (c.2 q (τ (υ (by cases K;rfl))))⟩
    .rcases e3 with⟨h,_⟩|⟨q,az,al,b9,t,ba,r⟩
     .cases h
     .have ap:q=b:=by cases b9;rfl
      have b8:∀i,p.cell? (O q i)=f.cell? (O q i):=λi=>η (w:=f) (c.2 q (υ (by rw[Z,ap];rfl)));exact υ ⟨q,az,al,b9,t,ο ba c.1,λj hj=>⟨(b8 _).trans (r j hj).1,(b8 _).trans (r j hj).2⟩⟩
   gi_region_with (first|(refine RoundIn.mono (fZ Y) ?_;rintro b8 p⟨C,rfl,ba,r⟩))
   all_goals
    cases C with
    | true =>
     have H3:J<|_:=ba rfl;clear ba r Y hy ac d0 d1 ah Q;gi_wp2_with fail
     gi_roundg (a.length-(i+1))
     case measure=>omega
     case rel=>exact⟨i+1,V,Λ,by rw[fD.o];exact H3.o.1,HK.o _ H3.o.2⟩
    | false =>have H4:J<|_:=r rfl;clear ba r Y hy ac d0 d1 ah Q;gi_wp2_with fail;refine ϐ (results_none rfl _ _ _) rfl ?_;exact⟨⟨_,rfl⟩,υ ⟨_,T,H4.o⟩⟩
  .clear m;gi_wp2_with fail
   go_end0
   refine⟨⟨_,rfl⟩,τ ⟨a.map (Fj It),QT A hv,T, ?_⟩⟩;have:=a3.o;rw[ϑg V]at this;exact this
end
section
open Go.Proofs.Tryz Go.RowKit
variable{p v:ByteArray}{n:Int}{b:Nat}{a:UInt8}{w:World}
def uN(s:ByteArray)(w:World)(c:s.size<=1048576):Calls prog 95 #[.string s] w λe w'=>e=.returned (.string s)/\Below w.heap.size w w':=by have a:J<|_:=Tryz.stringslite_Clone s w V;go_enter func95,ntmps95;go_wp2_with fail;refine ψ a.o ?_;rintro e d⟨rfl,b⟩;go_wp2;go_ret;exact⟨rfl,b⟩
structure jl(w:World)(b:Nat)(p:ByteArray)(a:UInt8)(v:ByteArray)(n:Int):Prop where
 tag:Tagged w b 85
 c0:w.cell? (z b)=some (.string p)
 c1:w.cell? (O b 1)=some (.int .u8 (a.toNat:Int))
 c2:w.cell? (O b 2)=some (.string v)
 c3:w.cell? (O b 3)=some (I n)
def jl.aJ{M:Nat->Prop}{d:World}(h:jl w b p a v n)(e:aA M w d)(f:¬M b):jl d b p a v n:=by have c:∀i,d.cell? (O b i)=w.cell? (O b i):=λi=>η (w:=w) (e.block b h.tag.lt f);exact⟨h.tag.aJ e f,(c 0).trans h.c0,(c 1).trans h.c1,(c 2).trans h.c2,(c 3).trans h.c3⟩
def jl.below{c:World}(h:jl w b p a v n)(d:Below w.heap.size w c):jl c b p a v n :=
 h.aJ (aA.of_below (M:=λ_=>False) d) (λh=>h)
def jl.set2(h:jl w b p a v n)(c:ByteArray):jl (w.setCell (O b 2) (.string c)) b p a c n :=
 ⟨h.tag.setCell _ _,(aT (υ V)).trans h.c0,(aT (υ V)).trans h.c1,bV h.c2,(aT (υ V)).trans h.c3⟩
def jl.ah0(h:jl w b p a v n)(n':Int):jl (w.setCell (O b 3) (I n')) b p a v n' :=
 ⟨h.tag.setCell _ _,(aT (υ V)).trans h.c0,(aT (υ V)).trans h.c1,(aT (υ V)).trans h.c2,bV h.c3⟩
def jl.set0(h:jl w b p a v n)(c:ByteArray):jl (w.setCell (z b) (.string c)) b c a v n :=
 ⟨h.tag.setCell _ _,bV h.c0,(aT (υ V)).trans h.c1,(aT (υ V)).trans h.c2,(aT (υ V)).trans h.c3⟩
def jl.set1(h:jl w b p a v n)(c:UInt8):jl (w.setCell (O b 1) (.int .u8 (c.toNat:Int))) b p c v n :=
 ⟨h.tag.setCell _ _,(aT (υ V)).trans h.c0,bV h.c1,(aT (υ V)).trans h.c2,(aT (υ V)).trans h.c3⟩
def jl.ah1{c i:Nat}(h:jl w b p a v n)(d:b≠c)(u:Value):jl (w.setCell (O c i) u) b p a v n :=
 h.aJ ((aA.refl (λk=>k=c) w).setCell (p:=(O c i)) rfl u) d
def qj(w:World)(p:ByteArray)(a:UInt8)(v:ByteArray)(n:Int):jl (w.alloc (.cells #[.string p,.int .u8 (a.toNat:Int),.string v,I n] 85)) w.heap.size p a v n:=by have h:(w.alloc (.cells #[.string p,.int .u8 (a.toNat:Int),.string v,I n] 85)).heap[w.heap.size]?=some (.cells #[.string p,.int .u8 (a.toNat:Int),.string v,I n] 85 (0,0)):=heap_alloc_new _ _;refine⟨⟨_,h⟩, ?_, ?_, ?_, ?_⟩<;>rw[World.cell?_alloc_at _ _ _ _ rfl]<;>rfl
def OV(p:ByteArray)(a:UInt8)(v:ByteArray)(n:Int)(w:World)(D:p.size<=1048576)(E:v.size<=1048576):Calls prog 76 #[.agg #[.string p,.int .u8 (a.toNat:Int),.string v,I n]] w λe w'=>e=.returned (.agg #[.string p,.int .u8 (a.toNat:Int),.string v,I n])/\Below w.heap.size w w':=by
 have r:=ω<|λo=>(qj w p a v n).below ((φ _ _).alloc (χ _) o)
 have m:J<|∀o,jl ((w.alloc o).alloc (.cells #[.string ⟨#[]⟩,.int .u8 0,.string ⟨#[]⟩,I 0] 85)) (w.heap.size+1) ⟨#[]⟩ 0 ⟨#[]⟩ 0:=λo=>by
  have:=qj (w.alloc o) ⟨#[]⟩ 0 ⟨#[]⟩ 0;have e:(w.alloc o).heap.size=w.heap.size+1:=Ω
  rw[e]at this;exact this
 have q:J<|∀o j,Below w.heap.size w ((w.alloc o).alloc j):=λo j=>((φ _ w).alloc (χ _) o).alloc Ω j;go_enter func76,ntmps76;go_wp2_with fail;refine ψ (uN p _ D) ?_;rintro e s⟨rfl,f⟩;have b:=(r.o _).below f;have c:=(m.o _).below f;have i:J<|Below w.heap.size w s:=(q.o _ _).trans (f.mono Θ);clear f;have t:=b.c0;have u:=b.c1;have x:=b.c2;have y:=b.c3;have A:=b.tag.frozen;have l:=ω b;have h:=ω c;clear b c r m q;go_wp2_with fail;refine ψ (uN v _ E) ?_;rintro e d⟨rfl,g⟩;have b:=(l.o.set0 p).below g;have c:jl d (w.heap.size+1) ⟨#[]⟩ 0 ⟨#[]⟩ 0:=(h.o.aJ ((aA.refl (λk=>k=w.heap.size) s).setCell (p:=(z w.heap.size)) rfl (.string p)) Ω).below g;have B:J<|Below w.heap.size w d:=(i.o.setCell (p:=(z w.heap.size)) (χ _) (.string p)).trans (g.mono (by have:=i.o.size;simpa[World.setCell]using this));clear g t u x y A;have t:=b.c0;have u:=b.c1;have x:=b.c2;have y:=b.c3;have A:=b.tag.frozen;have G:=c.c0;have H:=c.c1;have K:=c.c2;have L:=c.c3;have M:=c.tag.frozen;have h:=ω c;clear b c l i;go_wp2;have hF:jl (((((d.setCell (O w.heap.size 2) (.string v)).setCell (z (w.heap.size+1)) (.string p)).setCell (O (w.heap.size+1) 1) (.int .u8 (a.toNat:Int))).setCell (O (w.heap.size+1) 2) (.string v)).setCell (O (w.heap.size+1) 3) (I n)) (w.heap.size+1) p a v n :=
  ((((h.o.ah1 V _).set0 p).set1 a).set2 v).ah0 n
 have C:Below w.heap.size w (((((d.setCell (O w.heap.size 2) (.string v)).setCell (z (w.heap.size+1)) (.string p)).setCell (O (w.heap.size+1) 1) (.int .u8 (a.toNat:Int))).setCell (O (w.heap.size+1) 2) (.string v)).setCell (O (w.heap.size+1) 3) (I n)) :=
  ((((B.o.setCell (p:=(O w.heap.size 2)) (χ _) _).setCell (p:=(z (w.heap.size+1))) (Nat.le_succ _) _).setCell (p:=(O (w.heap.size+1) 1)) (Nat.le_succ _) _).setCell (p:=(O (w.heap.size+1) 2)) (Nat.le_succ _) _).setCell (p:=(O (w.heap.size+1) 3)) (Nat.le_succ _) _
 generalize (((((d.setCell (O w.heap.size 2) (.string v)).setCell (z (w.heap.size+1)) (.string p)).setCell (O (w.heap.size+1) 1) (.int .u8 (a.toNat:Int))).setCell (O (w.heap.size+1) 2) (.string v)).setCell (O (w.heap.size+1) 3) (I n))=F at *;refine ϐ (v:=.agg #[.string p,.int .u8 (a.toNat:Int),.string v,I n]) (by simp[results,Tryz.results76,go_sem,hF.c0,hF.c1,hF.c2,hF.c3]) rfl ⟨rfl,C⟩
def aG(a:UInt8)(t:ByteArray):ByteArray:=if a.toNat=43\/a.toNat=45\/a.toNat=61 then t else ByteArray.empty
def opA{p:Thk.Bs}{l:Thk.Bs}(b:a.toNat=43\/a.toNat=45\/a.toNat=61):(Thk.operand p a l).isRight=Thk.word Thk.vT 8 l/\∀c,Thk.operand p a l=.inr c->c.n=0:=by
 have d:Thk.val l=Thk.word Thk.vT 8 l:=rfl;unfold Thk.operand;rw[ώ b,d];cases Thk.word Thk.vT 8 l
 .simp
 .simp only[if_true,Sum.isRight_inr,Sum.inr.injEq,ϑM];rintro c rfl;rfl
def opB{p:Thk.Bs}{l:Thk.Bs}(b:a.toNat=62):(Thk.operand p a l).isRight=(Thk.num l).isSome/\∀c,Thk.operand p a l=.inr c->Thk.num l=some c.n:=by
 unfold Thk.operand;rw[ύ V,ώ b];cases Thk.num l
 .simp
 .simp only[Sum.isRight_inr,Sum.inr.injEq,Option.isSome_some,ϑM];rintro c rfl;rfl
def opC{p:Thk.Bs}{l:Thk.Bs}(b:¬(a.toNat=43\/a.toNat=45\/a.toNat=61))(d:¬a.toNat=62):(Thk.operand p a l).isRight=decide (l=[])/\∀c,Thk.operand p a l=.inr c->c.n=0:=by
 unfold Thk.operand;rw[ύ b,ύ d];by_cases h:l=[]
 .rw[ώ h];simp only[Sum.isRight_inr,Sum.inr.injEq,h,decide_true,ϑM];rintro c rfl;rfl
 .rw[ύ h];simp[h]
def ao8{t:ByteArray}(b:a.toNat=43\/a.toNat=45\/a.toNat=61):aG a t=t:=ώ b
def ac0{t:ByteArray}(b:¬(a.toNat=43\/a.toNat=45\/a.toNat=61)):aG a t=ByteArray.empty:=ύ b
def Bd(b:Nat)(p:ByteArray)(a:UInt8)(t:ByteArray)(w:World)(l:t.size<=1048576)(k:Glob w)(d:jl w b p a ByteArray.empty 0):Calls prog 75 #[.pointer (some (z b)),.string t] w λj w'=>j=.returned (.bool (Thk.operand (ay p) a (ay t)).isRight)/\(∀c,Thk.operand (ay p) a (ay t)=.inr c->jl w' b p a (aG a t) c.n)/\aA (· = b) w w':=by
 have r:=d.c0;have s:=d.c1;have u:=d.c2;have v:=d.c3;have y:=d.tag.frozen;have f:=ω d;have m:J<|_:=CU t w l k;clear k d;go_enter func75,ntmps75;go_wp2_with (first|(go_at_call 137;refine ψ m.o ?_;rintro j q⟨n,rfl,o,i⟩;have A:=(f.o.below i).c3;have B:=(f.o.below i).tag.frozen)|(go_at_call 135;refine(Iw t 8 _ l V).mono ?_;rintro j q⟨rfl,rfl⟩))
 iterate 3
  .go_ret;have e:a.toNat=43\/a.toNat=45\/a.toNat=61:=by simp only[ϑt,ό]at *;omega
   refine⟨bC (opA e).1.symm,λc h=>?_,aA.setCell (M:=λx=>x=b) (aA.refl _ w) (p:=(O b 2)) rfl _⟩;rw[(opA e).2 c h,ao8 e];exact f.o.set2 t
 .go_ret;have g:a.toNat=62:=by simp only[ϑt,ό]at *;omega
  refine⟨bC (opB g).1.symm,λc h=>?_,aA.setCell (M:=λx=>x=b) (aA.of_below i) (p:=(O b 3)) rfl _⟩;rw[<- o _ ((opB g).2 c h),ac0 V];exact(f.o.below i).ah0 n
 .go_ret;have e:¬(a.toNat=43\/a.toNat=45\/a.toNat=61):=by simp only[ϑt,ό]at *;omega
  have g:¬a.toNat=62:=by simp only[ϑt,ό]at *;omega
  refine⟨bC ?_,λc h=>?_,aA.refl _ w⟩
  .rw[(opC e g).1,toList_eq];show(ay t).isEmpty=_;cases ay t<;>rfl
  .rw[(opC e g).2 c h,ac0 e];exact f.o
def fO:ByteArray:=⟨#[43,45,94,95,61,62,33]⟩
def yt:∀b∈fO.data.toList,b.toNat<128:=by decide +kernel
def Df(w:World)(s:ByteArray)(i:Nat):Below w.heap.size w (w.iter s i):=(φ _ w).alloc (χ _) _
def Fp(w:World):Calls prog 129 #[.string fO,.int .i32 65533] w λe w'=>e=.returned (I (-1))/\Below w.heap.size w w':=by
 have m:fO.size=7:=rfl;have c:J<|∀i(h:i<fO.size),(fO[i]'h).toNat<128:=λi h=>yt _ (Array.getElem_mem_toList (xs:=fO.data) h);generalize fO=s at *;go_enter func129,ntmps129;go_wp2_with fail;go_loopg [5,6] 7 (λg _ _ j=>∃i:Nat,i+g=7/\j=w.iter s i);case atStart=>exact⟨0,V,rfl⟩
 case round =>
  obtain⟨i,k,rfl⟩:=hrel;cases gk with
  | zero =>have d:=λb=>run_next_end (P:=prog) w s i b V;go_wp2;go_ret;exact⟨rfl,Df _ _ _⟩
  | succ g =>
   have a:i<s.size:=V
   have f:=c.o i a;have d:=λb=>run_next_ascii (P:=prog) w s i b a f;generalize (s[i]'a)=x at *;have l:((x.toNat:Int)==65533)=false:=ό.2 V;go_wp2;go_roundg g;case measure=>omega
   case rel=>exact⟨i+1,V,rfl⟩
def indexByte_none(c:UInt8):∀l:Thk.Bs,(∀b∈l,b≠c)->Lib.indexByte l c = -1:=by
 intro l;induction l with
 | nil=>intro _;rfl
 | cons x l ih =>
  intro h;have a:(x==c)=false:=by simpa using h x Ω
  have d:=ih (λb e=>h b (by simp[e]));rw[Bo,a,d];(first|done|rfl)
def sJ(id:Nat)(Q:Exit->Act->World->Prop)(a:Act)(w:World):Exit.inBlock id Q .ret a w=Q .ret a w:=rfl
def KN(K:Act->World->Prop)(Q:Exit->Act->World->Prop)(a:Act)(w:World):Exit.then K Q .ret a w=Q .ret a w:=rfl
def Qb(s:ByteArray)(c:UInt8):Prop:=∀i j wx,Calls prog 72 #[.string (s.extract i j),.int .u8 (c.toNat:Int)] wx λe w'=>e=.returned (I (-1))/\w'=wx
def Dh(r:Int)(w:World)(d:128<=r)(l:r<=2147483647):Calls prog 129 #[.string fO,.int .i32 r] w λe w'=>e=.returned (I (-1))/\Below w.heap.size w w':=by
 by_cases m:r=65533
 .subst m;exact Fp w
 have P:=ό.2 m;have W:¬r<128:=V
 cases hv:Lib.validRune r
 .have c:=ω hv;clear hv;go_enter func129,ntmps129;go_wp2_with (go_at_call 186;refine(Tryz.utf8_ValidRune r _).mono ?_;rintro e t⟨rfl,rfl⟩;rw[c.o]);go_ret;exact⟨rfl,φ _ _⟩
 .have c:=ω hv;have q:Utf8.valid r=true:=by unfold Lib.validRune at hv;unfold Utf8.valid;simp at hv⊢;omega
  obtain⟨x,y,g⟩:=encode_facts r q d;clear hv q;obtain⟨n,G⟩:∃n,(Utf8.encode r).size=n+1:=⟨(Utf8.encode r).size-1,V⟩;have R:fO.size=7:=rfl;have f:J<|∀i(h:i<fO.size),(fO[i]'h).toNat<128:=λi h=>yt _ (Array.getElem_mem_toList (xs:=fO.data) h);generalize fO=s at *;have D:∀wx,(convert 21 9 (.int .i32 r)).run prog wx=.ok (.string (Utf8.encode r)) wx:=λwx=>run_convert_int_string wx 21 9 .i32 r (by rw[underlying21];rfl) underlying9;generalize Utf8.encode r=a at *;go_enter func129,ntmps129;go_wp2_with (go_at_call 186;refine(Tryz.utf8_ValidRune r _).mono ?_;rintro e t⟨rfl,rfl⟩;rw[c.o])
  go_step3
  go_wp2_with fail;have p:n<s.size:=V
  have hnr:n<a.size:=V
  have T:=f.o n p;have U:128<=(a[n]'hnr).toNat:=by
   have:=g V;have e:a.size-1=n:=V
   simp only[e]at this;exact this
  have Q:(((s[n]'p).toNat:Int) !=((a[n]'hnr).toNat:Int))=true:=Θ
  have v:J<|∀i j,Lib.indexByte (s.extract i j).data.toList (a[n]'hnr) = -1:=λi j=>indexByte_none _ _ (λb B=>by intro E;have d:=mem_extract B;obtain⟨k,o,F⟩:=ϑd d;have l:=f.o k (by simpa using o);have A:s[k]'(by simpa using o)=b:=F;rw[A,E]at l;omega);have C:(((a[n]'hnr).toNat:Int)).toNat.toUInt8=a[n]'hnr:=Ω
  have u:Qb s (a[n]'hnr):=λi j wx=>by refine(Tryz.strings_IndexByte _ _ _).mono ?_;rintro e Z⟨rfl,rfl⟩;rw[C,v.o];exact⟨rfl,rfl⟩
  have S:IntKind.i64.wrap ((n:Int)+1)=(n:Int)+1:=wrap_small _ V V;have M:(n:Int)+1<=7:=V
  have N:(0:Int)<=(n:Int)+1:=V
  clear x y g D G;go_loopg [9,10,11,12] 0 (λL K H X Y wx=>K=I n/\H=I 0/\wx=t);case atStart=>exact⟨rfl,rfl,rfl⟩
  case round =>
   obtain⟨rfl,rfl,rfl⟩:=hrel;go_wp2_with fail
   go_step3
   go_wp2_with fail
   go_quiet (fail)
   go_wp2_with fail
   go_quiet (first|(go_at_call 72;exact ψ (u _ _ _) (λ_ _ h=>⟨h.1,_,h.2⟩)))
   go_wp2;rw[Exit.noGoto_ret,sJ,KN,sJ,KN,Exit.noGoto_ret,sJ];go_ret;exact⟨rfl,below_drewN (φ _ _) _⟩
def KO(s:ByteArray)(i:Nat)(h:i<s.size)(m:128<=(s[i]'h).toNat):∀j,j<(Utf8.decode s i).2->∃a:i+j<s.size,128<=(s[i+j]'a).toNat:=by
 have n:∀k(hk:i+k<s.size),(s.get! (i+k)).toNat / 64=2->128<=(s[i+k]'hk).toNat:=λk hk l=>by
  have g:s.get! (i+k)=s[i+k]'hk:=by simp[ByteArray.get!,getElem!_pos,hk];(first|done|rfl)
  rw[g]at l;omega
 have d:∃a:i+0<s.size,128<=(s[i+0]'a).toNat:=⟨h,m⟩;have o:¬(s[i]'h).toNat<128:=V
 intro j a;have b:∀k,(decide (i+k<s.size)&&(s.get! (i+k)).toNat / 64==2)=true->∃a:i+k<s.size,128<=(s[i+k]'a).toNat:=λk hk=>by simp only[γ,ϑs,ϑt]at hk;exact⟨hk.1,n k hk.1 hk.2⟩
 simp only[Utf8.decode,get_at s i h,o,if_false]at a;split at a
 .rename_i hx;simp only[γ]at hx;have c:=b 1 (by simpa using hx.2);split at a<;>(simp only at a;rcases j with _|_|j;exact d;exact c;omega)
 .split at a
  .rename_i hx;simp only[γ]at hx;have c:=b 1 (by simpa using hx.1.2);have e:=b 2 (by simpa using hx.2);split at a<;>(simp only at a;rcases j with _|_|_|j;exact d;exact c;exact e;omega)
  .split at a
   .rename_i hx;simp only[γ]at hx;have c:=b 1 (by simpa using hx.1.1.2);have e:=b 2 (by simpa using hx.1.2);have f:=b 3 (by simpa using hx.2);split at a<;>(simp only at a;rcases j with _|_|_|_|j;exact d;exact c;exact e;exact f;omega)
   .simp only at a;rcases j with _|j;exact d;omega
end
section
open Go.Proofs.Tryz Go.RowKit Go.Lib
def Ws(x:UInt8)(h:128<=x.toNat):(ay fO).contains x=false:=by
 have:∀b∈ay fO,b.toNat<128:=yt;cases hc:(ay fO).contains x
 .rfl
 .have:=this x (by simpa using hc);omega
def OW{s:ByteArray}{i d:Nat}(k:Lib.NoAny (ay s) (ay fO) i)(m:∀j,j<d->∃f:i+j<s.size,128<=(s[i+j]'f).toNat):Lib.NoAny (ay s) (ay fO) (i+d):=by
 intro j b f a;by_cases l:j<i
 .exact k j b l a
 .obtain⟨c,e⟩:=m (j-i) V;have g:i+(j-i)=j:=V
  simp only[g]at c e;have h:(ay s)[j]?=some (s[j]'c):=Lib.data_getElem? s j c;rw[h]at a;cases a
  exact Ws _ e
def Di(s:ByteArray)(w:World)(T:s.size<=8):Calls prog 71 #[.string s,.string fO] w λf w'=>f=.returned (I (Lib.indexAny (ay s) (ay fO)))/\Below w.heap.size w w':=by
 have a1:fO.size=7:=rfl;have U:fO.toList.isEmpty=false:=by rw[toList_eq];(first|done|rfl)
 have L:decide ((8:Int)<(s.size:Int))=false:=decide_eq_false V;have E:=ω<|λr k H K=>Dh r k H K
 have Hs:J<|∀{i d:Nat},Lib.NoAny (ay s) (ay fO) i->(∀n,n<d->∃A:i+n<s.size,128<=(s[i+n]'A).toNat)->Lib.NoAny (ay s) (ay fO) (i+d):=λG N=>OW G N;generalize fO=e at *;go_enter func71,ntmps71;go_wp2_with (go_at_call 130;refine(Tryz.strings_shouldUseASCIISet _ _).mono ?_;rintro f w'⟨rfl,g⟩;rw[g,L]);go_loopg [9,10] s.size (λF _ _ k=>∃i:Nat,i+F=s.size/\k.heap[w.heap.size]?=some (.stringIter s i)/\Below w.heap.size w k/\Lib.NoAny (ay s) (ay e) i);case atStart=>exact⟨0,V,World.iter_heap _ _ _,Df _ _ _,Lib.NoAny.zero _ _⟩
 case round =>
  obtain⟨i,Y,b,v,B⟩:=hrel;have j:=ω B;have l:=ω v;have o:=ω b;clear B v;by_cases a:i<s.size
  .by_cases S:(s[i]'a).toNat<128
   .have C:=λh=>run_next_ascii_at (P:=prog) wr w.heap.size s i h b a S;have q:J<|(ay s)[i]?=some (s[i]'a):=Lib.data_getElem? s i a;clear b;generalize (s[i]'a)=x at *;have c:(ay e).contains x=decide (0<=Lib.indexByte e.data.toList x):=Lib.contains_iff_indexByte e.data.toList x;have u:((x.toNat:Int)).toNat.toUInt8=x:=Ω
    have m:J<|(wr.iterAt w.heap.size s (i+1)).heap[w.heap.size]?=some (.stringIter s (i+1))/\Below w.heap.size w (wr.iterAt w.heap.size s (i+1)):=⟨iterAt_heap _ _ _ _ _ o.o,below_iterAt l.o (χ _) _ _⟩;cases hin:(ay e).contains x
    .rw[hin]at c;have a0:=of_decide_eq_false c.symm;clear c;go_wp2_with (go_at_call 129;refine(Tryz.strings_IndexRune_ascii _ _ _ V V).mono ?_;rintro f w'⟨rfl,g⟩;rw[g,u]);go_roundg (s.size-(i+1));case measure=>omega
     case rel=>exact⟨i+1,V,m.o.1,m.o.2,j.o.succ q.o hin⟩
    .rw[hin]at c;have W:=of_decide_eq_true c.symm;clear c;go_wp2_with (go_at_call 129;refine(Tryz.strings_IndexRune_ascii _ _ _ V V).mono ?_;rintro f w'⟨rfl,g⟩;rw[g,u]);go_ret;exact⟨by rw[Lib.indexAny_hit j.o q.o hin];rfl,m.o.2⟩
   .have C:=λh=>run_next_any_at (P:=prog) wr w.heap.size s i h b a;have X:=decode_high s i a V;have Z:=decode_le s i;have p:J<|_:=KO s i a V;clear b;have D:J<|i+(Utf8.decode s i).2<=s.size:=by obtain⟨A,_⟩:=p.o ((Utf8.decode s i).2-1) V;unfold J;omega
    generalize Utf8.decode s i=rd at *;obtain⟨r,d⟩:=rd;simp only at *;have M:J<|Below w.heap.size w (wr.iterAt w.heap.size s (i+d)):=below_iterAt l.o (χ _) _ _;have y:J<|(wr.iterAt w.heap.size s (i+d)).heap[w.heap.size]?=some (.stringIter s (i+d)):=iterAt_heap _ _ _ _ _ o.o;generalize wr.iterAt w.heap.size s (i+d)=w2 at *;go_wp2_with (go_at_call 129;refine(E.o _ _ V V).mono ?_;rintro f w'⟨rfl,t⟩);go_roundg (s.size-(i+d));case measure=>omega
    case rel =>
     have R:=(Array.getElem?_eq_some_iff.1 y.o).1;refine⟨i+d, ?_, ?_, ?_,Hs.o j.o p.o⟩
     .have:=D.o;omega
     .exact(t.block _ R).trans y.o
     .exact M.o.trans (t.mono V)
  .have Q:i=s.size:=V
   have C:=λh=>run_next_end_at (P:=prog) wr w.heap.size s i h b a;clear b;go_wp2;go_ret;exact⟨by rw[Lib.indexAny_none (by rw[aB,<- Q];exact j.o)];rfl,l.o⟩
def IU(s:ByteArray)(w:World)(f:s.size<=1048576):Calls prog 71 #[.string s,.string fO] w λe w'=>e=.returned (I (Lib.indexAny (ay s) (ay fO)))/\Below w.heap.size w w':=by
 by_cases c:s.size<=8
 .exact Di s w c
 .have g:fO.size=7:=rfl;have a:(prog.info? 201).map (λi=>(i.zero,i.size))=some (some (.agg (Array.replicate 256 (.bool false))),256):=by kernel_rfl
  refine ψ (Tryz.strings_IndexAny_long ?_ s fO w V V V V ?_) ?_
  .exact(zero_of_info a).1
  .intro j b d;exact yt b (ϑC d)
  .rintro e w'⟨rfl,rfl⟩;exact⟨rfl,((φ _ w).alloc (χ _) _).alloc Ω _⟩
def wR(c:UInt8):Thk.eP c=(ay fO).contains c:=by have e:ay fO=[43,45,94,95,61,62,33]:=rfl;rw[e,Bool.eq_iff_iff];simp only[Thk.eP,List.contains_cons,List.contains_nil,ϑw,ϑt,<- UInt8.toNat_inj,Bool.or_false];simp;omega
def Fq(l:Thk.Bs):(l.findIdx Thk.eP=l.length/\Lib.indexAny l (ay fO) = -1)\/(∃h:l.findIdx Thk.eP<l.length,Lib.indexAny l (ay fO)=(l.findIdx Thk.eP:Int)/\Thk.eP (l[l.findIdx Thk.eP]'h)=true):=by
 rcases Nat.lt_or_ge (l.findIdx Thk.eP) l.length with h|h
 .right;have d:Thk.eP (l[l.findIdx Thk.eP]'h)=true:=List.findIdx_getElem (w:=h);refine⟨h, ?_,d⟩;refine Lib.indexAny_hit (x:=l[l.findIdx Thk.eP]'h) ?_ (σ h) (by rw[<- wR];exact d);intro j b c a;have f:j<l.length:=V
  rw[σ f]at a;cases a
  rw[<- wR];exact List.not_of_lt_findIdx c
 .left;have e:=Nat.le_antisymm List.findIdx_le_length h;refine⟨e,Lib.indexAny_none ?_⟩;intro j b c a;rw[σ c]at a;cases a
  rw[<- wR];exact List.not_of_lt_findIdx (e▸c)
def sK(c:Thk.Ch):Value:=.agg #[.string ⟨c.path.toArray⟩,.int .u8 (c.act.toNat:Int),.string (aG c.act ⟨c.val.toArray⟩),I c.n]
def IV:Value:=.agg #[.string ⟨#[]⟩,.int .u8 0,.string ⟨#[]⟩,I 0]
def QU:Nat ⊕ Thk.Ch->Value
 | .inl m=>.tuple #[IV,I m]
 | .inr c=>.tuple #[sK c,I 0]
def Dj(s:ByteArray):(⟨(ay s).toArray⟩:ByteArray)=s:=by show(⟨s.data.toList.toArray⟩:ByteArray)=s;rw[Array.toArray_toList]
end
section
open Go.Proofs.Tryz Go.RowKit
variable{b:Nat}{a:UInt8}{w:World}
def jl.store{p:ByteArray}{v:ByteArray}{n:Int}(h:jl w b p a v n)(d:ByteArray)(c:UInt8)(e:ByteArray)(n':Int):jl ((((w.setCell (z b) (.string d)).setCell (O b 1) (.int .u8 (c.toNat:Int))).setCell (O b 2) (.string e)).setCell (O b 3) (I n')) b d c e n' :=
 (((h.set0 d).set1 c).set2 e).ah0 n'
def jl.IW{p:ByteArray}{v:ByteArray}{n:Int}(h:jl w b p a v n):jl ((((w.setCell (z b) (.string ⟨#[]⟩)).setCell (O b 1) (.int .u8 0)).setCell (O b 2) (.string ⟨#[]⟩)).setCell (O b 3) (I 0)) b ⟨#[]⟩ 0 ⟨#[]⟩ 0 :=
 h.store ⟨#[]⟩ 0 ⟨#[]⟩ 0
def lJ{B:Nat}{a:World}(h:Below B a w)(c:B<=b)(x y d u:Value):Below B a ((((w.setCell (z b) x).setCell (O b 1) y).setCell (O b 2) d).setCell (O b 3) u) :=
 (((h.setCell (p:=(z b)) c x).setCell (p:=(O b 1)) c y).setCell (p:=(O b 2)) c d).setCell (p:=(O b 3)) c u
def yu(s:ByteArray)(k:Nat):ay (s.extract 0 k)=(ay s).take k:=by show(s.extract 0 k).data.toList=s.data.toList.take k;rw[ByteArray.data_extract,Array.toList_extract];simp
def Dk(s:ByteArray)(k:Nat):ay (s.extract k s.size)=(ay s).drop k:=by show(s.extract k s.size).data.toList=s.data.toList.drop k;rw[ByteArray.data_extract,Array.toList_extract];show(s.data.toList.drop k).take (s.size-k)=_;rw[ϑg];simp
def Fv(k:UInt8)(w:World):Calls prog 73 #[.int .u8 (k.toNat:Int)] w λe a=>e=.returned (.string ⟨(rW k).toArray⟩)/\a=w:=by refine(Fa k w).mono ?_;rintro e a⟨t,rfl,b,rfl⟩;exact⟨by rw[<- b,Dj],rfl⟩
def Td(k a:UInt8):Thk.fits k a=(rW k).contains a:=by
 unfold Thk.fits rW;have b:∀n:Nat,((k.toNat:Int)=(n:Int))↔k.toNat=n:=λn=>V
 simp only[show((115:Int))=((115:Nat):Int)from rfl,show((102:Int))=((102:Nat):Int)from rfl,show((114:Int))=((114:Nat):Int)from rfl,show((99:Int))=((99:Nat):Int)from rfl,b]
 repeat' split
 all_goals
  rw[Bool.eq_iff_iff];simp only[List.contains_cons,List.contains_nil,ϑw,ϑt,<- UInt8.toNat_inj,Bool.or_false];simp<;>omega
def KP{p:Thk.Bs}{v:Thk.Bs}{m:Nat}(h:Thk.operand p a v=.inl m):m=5:=by
 unfold Thk.operand at h;split at h
 .split at h<;>simp_all
 .split at h
  .split at h<;>simp_all
  .split at h<;>simp_all
def sN{p:Thk.Bs}{v:Thk.Bs}{c:Thk.Ch}(h:Thk.operand p a v=.inr c):c=⟨p,a,v,c.n⟩:=by
 unfold Thk.operand at h;split at h
 .split at h
  .simp only[Sum.inr.injEq]at h;subst h;rfl
  .cases h
 .split at h
  .split at h
   .simp only[Sum.inr.injEq]at h;subst h;rfl
   .cases h
  .split at h
   .simp only[Sum.inr.injEq]at h;subst h;rfl
   .cases h
def Tf{B:Nat}{a c:World}(h:aA (λx=>x=b) a c)(d:B<=b)(f:B<=a.heap.size):Below B a c :=
 ⟨h.os,h.tape,h.output,h.size,λk e=>h.block k V V⟩
def ql(a:UInt8)(t:ByteArray):(aG a t).size<=t.size:=by
 unfold aG;split
 .exact χ _
 .exact Nat.zero_le _
def yw(s:ByteArray)(w:World)(hs:s.size<=1048576)(hG:Glob w):Calls prog 33 #[.string s] w λe w'=>e=.returned (QU (Thk.read (ay s)))/\Below w.heap.size w w':=by
 have Hi:J<|_:=λb=>IU s b hs;have Hz:J<|jl (w.alloc (.cells #[.string ⟨#[]⟩,.int .u8 0,.string ⟨#[]⟩,I 0] 85)) w.heap.size ⟨#[]⟩ 0 ⟨#[]⟩ 0:=qj w ⟨#[]⟩ 0 ⟨#[]⟩ 0;have ac:=ω<|λo=>(φ _ w).alloc (χ _) o
 have HG:=ω hG;clear hG;rcases Fq (ay s) with⟨y,A⟩|⟨y,A,ha⟩
 .have q:J<|Thk.read (ay s)=.inl 4:=by unfold J Thk.read;rw[ώ y]
  have Q:=ω A;clear A y;go_enter func33,ntmps33;go_wp2_with fail;refine ψ (Hi.o _) ?_;rintro e C⟨rfl,aq⟩;rw[Q.o];have d:=Hz.o.below aq;have u:J<|Below w.heap.size w C:=(ac.o _).trans (aq.mono Ω);clear aq;have E:=d.c0;have F:=d.c1;have G:=d.c2;have H:=d.c3;have K:=d.tag.frozen;have A1:=ω d;clear d;go_wp2;have hF:=A1.o.IW;have f:=lJ u.o (χ w.heap.size) (.string ⟨#[]⟩) (.int .u8 0) (.string ⟨#[]⟩) (I 0);generalize ((((C.setCell (z w.heap.size) (.string ⟨#[]⟩)).setCell (O w.heap.size 1) (.int .u8 0)).setCell (O w.heap.size 2) (.string ⟨#[]⟩)).setCell (O w.heap.size 3) (I 0))=M at *;exact ϐ (v:=.tuple #[IV,I 4]) (by simp[results,Tryz.results33,go_sem,hF.c0,hF.c1,hF.c2,hF.c3,IV]) rfl ⟨by rw[q.o];rfl,f⟩
 .have q:J<|Thk.read (ay s)=Thk.jf (ay s) ((ay s).findIdx Thk.eP):=by unfold J Thk.read;rw[ύ V]
  have Q:=ω A;clear A ha;generalize (ay s).findIdx Thk.eP=k at *;rw[aB]at y;have aj:(0:Int)<=(k:Int):=V
  have ak:(k:Int)<=(s.size:Int):=V
  have hkn:¬((k:Int)<0):=V
  obtain⟨p,hp⟩:∃p,p=s.extract 0 k:=⟨_,rfl⟩;have x:J<|ay p=(ay s).take k:=ω<|by rw[hp,yu]
  have a7:p.size<=1048576:=by have:=(aB p).symm;rw[this,x.o,List.length_take,aB];omega
  go_enter func33,ntmps33;go_wp2_with fail;refine ψ (Hi.o _) ?_;rintro e C⟨rfl,aq⟩;rw[Q.o];have u:J<|Below w.heap.size w C:=(ac.o _).trans (aq.mono Ω);have d:=ω<|Hz.o.below aq
  clear aq;go_wp2_with fail;rw[<- hp];clear hp;obtain⟨m,hm⟩:=(HG.o.mono u.o).len;have EX:J<|_:=xX p m C a7 hm;clear hm;refine ψ EX.o ?_;rintro e w2⟨rfl,X⟩;have S:=ω<|u.o.trans (X.mono u.o.size)
  have g:=ω<|d.o.below X
  clear X EX;cases hpa:Thk.path (ay p)
  .have j:J<|Thk.jf (ay s) k=.inl 4:=by unfold J Thk.jf;rw[ώ (by rw[<- x.o];exact hpa)]
   have E:=g.o.c0;have F:=g.o.c1;have G:=g.o.c2;have H:=g.o.c3;have K:=g.o.tag.frozen;go_wp2;have hF:=g.o.IW;have f:=lJ S.o (χ w.heap.size) (.string ⟨#[]⟩) (.int .u8 0) (.string ⟨#[]⟩) (I 0);generalize ((((w2.setCell (z w.heap.size) (.string ⟨#[]⟩)).setCell (O w.heap.size 1) (.int .u8 0)).setCell (O w.heap.size 2) (.string ⟨#[]⟩)).setCell (O w.heap.size 3) (I 0))=M at *;exact ϐ (v:=.tuple #[IV,I 4]) (by simp[results,Tryz.results33,go_sem,hF.c0,hF.c1,hF.c2,hF.c3,IV]) rfl ⟨by rw[q.o,j.o];rfl,f⟩
  .have ae:ab9 true p=p:=rfl;rw[ae];have aa:=ω hpa;clear ae hpa;have hkl:=y;have ag:((s[k]'hkl).toNat:Int).toNat.toUInt8=s[k]'hkl:=Ω
   obtain⟨B,a6⟩:∃B,B=Lib.indexByte (rW (Thk.kindOf (ay p))) (s[k]'hkl):=⟨_,rfl⟩;have a8:=ω<|λb=>KA p b a7 aa.o;have Ti:J<|∀b,Calls prog 73 #[.int .u8 ((Thk.kindOf (ay p)).toNat:Int)] b λe w'=>e=.returned (.string ⟨(rW (Thk.kindOf (ay p))).toArray⟩)/\w'=b:=λb=>Fv _ b;have a9:J<|∀b,Calls prog 72 #[.string ⟨(rW (Thk.kindOf (ay p))).toArray⟩,.int .u8 ((s[k]'hkl).toNat:Int)] b λe w'=>e=.returned (I B)/\w'=b:=λb=>by refine(Tryz.strings_IndexByte _ _ _).mono ?_;rintro e w'⟨rfl,rfl⟩;rw[ag,a6];exact⟨rfl,rfl⟩
   have R:J<|Thk.fits (Thk.kindOf (ay p)) (s[k]'hkl)=decide (0<=B):=ω<|by rw[Td,a6];exact Lib.contains_iff_indexByte _ _
   clear a6;go_wp2_with fail
   go_quiet (first|(go_at_call 74;exact ψ (a8.o _) (λ_ _ i=>⟨i.1,_,i.2⟩))|(go_at_call 73;exact ψ (Ti.o _) (λ_ _ i=>⟨i.1,_,i.2⟩))|(go_at_call 72;exact ψ (a9.o _) (λ_ _ i=>⟨i.1,_,i.2⟩)))
   have b3:=ω<|below_drewN S.o nq
   have h:=ω<|g.o.below (below_drewN (φ _ _) nq)
   have a0:J<|(ay s).getD k 0=s[k]'hkl:=ω<|by rw[ξ,show(ay s)[k]?=some (s[k]'hkl)from Lib.data_getElem? s k hkl];(first|done|rfl)
   have ab:J<|¬Thk.path ((ay s).take k)=false:=ω<|by rw[<- x.o,aa.o];simp
   generalize w2.drewN nq=D at *;clear d g u S a8 Ti a9;by_cases ao:B<0
   .have j:J<|Thk.jf (ay s) k=.inl 6:=by unfold J Thk.jf;rw[ύ ab.o,a0.o,<- x.o,R.o,ώ Θ]
    have E:=h.o.c0;have F:=h.o.c1;have G:=h.o.c2;have H:=h.o.c3;have K:=h.o.tag.frozen;go_wp2;have hF:=h.o.IW;have f:=lJ b3.o (χ w.heap.size) (.string ⟨#[]⟩) (.int .u8 0) (.string ⟨#[]⟩) (I 0);generalize ((((D.setCell (z w.heap.size) (.string ⟨#[]⟩)).setCell (O w.heap.size 1) (.int .u8 0)).setCell (O w.heap.size 2) (.string ⟨#[]⟩)).setCell (O w.heap.size 3) (I 0))=M at *;exact ϐ (v:=.tuple #[IV,I 6]) (by simp[results,Tryz.results33,go_sem,hF.c0,hF.c1,hF.c2,hF.c3,IV]) rfl ⟨by rw[q.o,j.o];rfl,f⟩
   .have j:J<|Thk.jf (ay s) k=Thk.operand (ay p) (s[k]'hkl) ((ay s).drop (k+1)):=by unfold J Thk.jf;rw[ύ ab.o,a0.o,<- x.o,R.o,ύ Θ]
    have ap:IntKind.i64.wrap ((k:Int)+1)=(k:Int)+1:=wrap_small _ V V;have al:(k:Int)+1<=(s.size:Int):=V
    have an:(0:Int)<=(k:Int)+1:=V
    go_wp2_with fail;obtain⟨t,ht⟩:∃t,t=s.extract (k+1) s.size:=⟨_,rfl⟩;have Ht:J<|ay t=(ay s).drop (k+1):=ω<|by rw[ht,Dk]
    have af:t.size<=1048576:=by have:=(aB t).symm;rw[this,Ht.o,List.length_drop,aB];omega
    rw[<- ht];clear ht;rw[<- Ht.o]at j;clear a0 R ag;generalize (s[k]'hkl)=a at *;have W:=ω h.o.tag.lt;have U:J<|Below w.heap.size w (D.alloc (.cells #[.string p,.int .u8 (a.toNat:Int),.string ⟨#[]⟩,I 0] 85)):=b3.o.alloc (ϑx W.o) _;have az:J<|jl (D.alloc (.cells #[.string p,.int .u8 (a.toNat:Int),.string ⟨#[]⟩,I 0] 85)) w.heap.size ⟨#[]⟩ 0 ⟨#[]⟩ 0:=h.o.below ((φ _ _).alloc (χ _) _);refine ψ (Bd D.heap.size p a t _ af ((HG.o.mono U.o)) (qj D p a ⟨#[]⟩ 0)) ?_;rintro e w4⟨rfl,Z,wL⟩;have T:=ω<|U.o.trans (Tf wL (ϑx W.o) U.o.size)
    have l:=ω<|az.o.aJ wL (Nat.ne_of_lt W.o)
    clear wL;have E:=l.o.c0;have F:=l.o.c1;have G:=l.o.c2;have H:=l.o.c3;have K:=l.o.tag.frozen;cases hop:Thk.operand (ay p) a (ay t) with
    | inl m =>have ah:=KP hop;subst ah;have P:=ω hop;clear hop Z;have N:(Sum.inl 5:Nat ⊕ Thk.Ch).isRight=false:=rfl;rw[N];go_wp2;have hF:=l.o.IW;have f:=lJ T.o (χ w.heap.size) (.string ⟨#[]⟩) (.int .u8 0) (.string ⟨#[]⟩) (I 0);generalize ((((w4.setCell (z w.heap.size) (.string ⟨#[]⟩)).setCell (O w.heap.size 1) (.int .u8 0)).setCell (O w.heap.size 2) (.string ⟨#[]⟩)).setCell (O w.heap.size 3) (I 0))=M at *;exact ϐ (v:=.tuple #[IV,I 5]) (by simp[results,Tryz.results33,go_sem,hF.c0,hF.c1,hF.c2,hF.c3,IV]) rfl ⟨by rw[q.o,j.o,P.o];rfl,f⟩
    | inr c =>
     have ad:=sN hop;have P:=ω hop;have L:=Z c hop;have N:(Sum.inr c:Nat ⊕ Thk.Ch).isRight=true:=rfl;rw[N];clear hop Z N;have Hv:J<|sK c=.agg #[.string p,.int .u8 (a.toNat:Int),.string (aG a t),I c.n]:=by unfold J sK;rw[ad];simp only[Dj]
     clear ad;have ai:=ς (ql a t) af;generalize aG a t=v at *;generalize c.n=n at *;have y0:=L.c0;have y1:=L.c1;have y2:=L.c2;have y3:=L.c3;clear L;go_wp2_with fail;refine ψ (OV p a v n w4 a7 ai) ?_;rintro e w5⟨rfl,Y⟩;have b5:=ω<|T.o.trans (Y.mono T.o.size)
     have r:=ω<|l.o.below Y
     clear Y E F G H K y0 y1 y2 y3;have E:=r.o.c0;have F:=r.o.c1;have G:=r.o.c2;have H:=r.o.c3;have K:=r.o.tag.frozen;go_wp2;have hF:=r.o.store p a v n;have f:=lJ b5.o (χ w.heap.size) (.string p) (.int .u8 (a.toNat:Int)) (.string v) (I n);generalize ((((w5.setCell (z w.heap.size) (.string p)).setCell (O w.heap.size 1) (.int .u8 (a.toNat:Int))).setCell (O w.heap.size 2) (.string v)).setCell (O w.heap.size 3) (I n))=M at *;exact ϐ (v:=.tuple #[.agg #[.string p,.int .u8 (a.toNat:Int),.string v,I n],I 0]) (by simp[results,Tryz.results33,go_sem,hF.c0,hF.c1,hF.c2,hF.c3]) rfl ⟨by rw[q.o,j.o,P.o];show _=Ending.returned (.tuple #[sK c,I 0]);rw[Hv.o],f⟩
end
section
open Go.Proofs.Tryz Go.RowKit Go.Maps Go.ChangeMaps Go.MapKept
def dB.count{P:Program}{k:TypeId}{w:World}{b N:Nat}{m:Value->Option Value}(r:dB P k w b N m)(K:Keyed P k):∃l:List Value,l.Nodup/\l.length=N/\∀key,key∈l↔m key≠none:=by
 obtain⟨D,s,t,h⟩:=r;obtain⟨g,q,A,F,j,rfl⟩:=s;refine⟨g.toList.map (·.key), ?_, ?_,λkey=>⟨λi=>?_,λi=>?_⟩⟩
 .rw[List.nodup_iff_pairwise_ne,List.pairwise_map];exact((stamped_iff g q).1 F.stamped).2.2
 .rw[<- t];simp only[Maps.size,length_sorted,ϑh,Array.length_toList]
 .obtain⟨x,d,rfl⟩:=ι.1 i;obtain⟨y,e⟩:=F.reads x d;have c:=WideElems.rd_key e;have a:=(h.1 _ _ c).1;have:Maps.has (DataW.map ((g.toList.map (WideElems.rg P k JF)).foldr DataW.insert [])) y.1=true :=
   List.any_eq_true.2 ⟨WideElems.rg P k JF x,mem_sorted.2 (ι.2 ⟨x,d,rfl⟩),by rw[WideElems.rg_of e];exact WideAt.sameKey_self (K.key c)⟩
  rw[this]at a;intro f;rw[f]at a;cases a
 .have j:(m key).isSome=true:=by cases hm:m key with
   | none=>exact absurd hm i
   | some v=>rfl
  obtain⟨B,n⟩:=h.2 key j;have a:=(h.1 _ _ n).1;rw[j]at a;obtain⟨p,u,o⟩:=List.any_eq_true.1 a;obtain⟨x,d,rfl⟩:=ι.1 (mem_sorted.1 u);obtain⟨y,e⟩:=F.reads x d;rw[WideElems.rg_of e]at o;have f:=WideAt.sameKey_eq o;have c:=WideElems.rd_key e;rw[f]at c;exact ι.2 ⟨x,d,K.inj c n⟩
open Go.WideElems (Fit rd rg pl rd_key rd_val rg_of other_key rd_mk)
variable{P:Program}{k:TypeId}{w:World}{b r N cnt:Nat}{m:Value->Option Value}{left:Value->Prop}
def KQ(a:Array MapEntry)(seen:Array Nat):(leftOf a seen).size=((a.toList.map (·.born)).filter (λn=>!seen.contains n)).length:=by unfold leftOf;rw[List.filter_map,ϑh,<- Array.length_toList,Array.toList_filter];rfl
def dY.store{t e:TypeId}(y:dY P k w b r N m left cnt)(K:Keyed P k)(ht:P.underlying t=some (.map k e))(hn:N<maxLen){key:Value}(val:Value){kl:Lit}(s:keyOf P k key=some kl)(Y:(m key).isSome=true):∃h,(Instr.mapUpdate t (.map (some b)) key val).run P w=.ok () h/\dY P k h b r N (upd m key val) left cnt/\w.grownBy h (some b)/\h.heap.size=w.heap.size:=by
 obtain⟨h,a6,a3,U,av⟩:=y.map.store K ht hn val s;rw[ώ Y]at a3;refine⟨h,a6, ?_,U,av⟩;have an:=y.ne;obtain⟨D,lf,⟨d,clock,ax,seen,c0,B,F,hs,hD,hr,ao,ae,ai,aj,aq,ar⟩,az,aa,ak,al⟩:=y;obtain⟨D',⟨n,M,T,G,ap,ac⟩,ab,a9⟩:=a3;have ag:∀x∈d.toList,∃l,keyOf P k x.key=some l:=λx c=>by obtain⟨E,q⟩:=F.reads x c;exact⟨E.1,rd_key q⟩
 rcases K.find w s d.toList ag with⟨R,g⟩|⟨j,e0,R,g,A⟩
 .exfalso;have W:=(aa.1 key kl s).1;rw[Y,hD]at W;obtain⟨p,hp,a4⟩:=List.any_eq_true.1 W;obtain⟨x,c,rfl⟩:=ι.1 (mem_sorted.1 hp);obtain⟨E,q⟩:=F.reads x c;rw[rg_of q]at a4;have e:=WideAt.sameKey_eq a4;have a0:=rd_key q;rw[e]at a0;exact g x c (K.inj a0 s)
 .have hj:d[j]?=some e0:=by simpa using g
  have a7:(Instr.mapUpdate t (.map (some b)) key val).run P w=.ok () (setBlock w b (.map (d.modify j (λi=>{ i with key:=key,val:=val })) clock)):=by simp[Instr.mapUpdate,run_underlying ht,MapKept.run_getObj_map B,K.check w false s,R,hj,A,K.stays w s,MapKept.run_setObj_map _ B,Result.andThen,setBlock]
  have hw:h=setBlock w b (.map (d.modify j (λi=>{ i with key:=key,val:=val })) clock):=by
   rw[a6]at a7;cases a7
   rfl
  have C:h.heap[b]?=some (.map (d.modify j (λi=>{ i with key:=key,val:=val })) clock):=by rw[hw];exact heap_setBlock_same B _
  rw[T]at C;have b0:n=d.modify j (λi=>{ i with key:=key,val:=val })/\M=clock:=by simp only[ϑb,Obj.map.injEq]at C;exact C
  obtain⟨b0,rfl⟩:=b0;have Z:=(ϑn.1 g).1;have u:n.toList=d.toList.set j { e0 with key:=key,val:=val }:=by rw[b0,Array.toList_modify,modify_eq_set _ _ _ _ g]
  have af:d.toList[j]'Z=e0:=(ϑn.1 g).2;have ad:n.toList.map (·.born)=d.toList.map (·.born):=by
   rw[u,List.map_set];refine List.ext_getElem? λv=>?_;rw[List.getElem?_set];by_cases e:j=v
   .subst e;rw[ώ rfl,ώ (by simpa using Z),ϑG,g];rfl
   .rw[ύ e]
  have aw:∀x∈d.toList,∃a∈n.toList,a.born=x.born/\a.key=x.key:=λx c=>by
   obtain⟨v,X,Q⟩:=ϑd c;by_cases e:j=v
   .subst e;have:=Q.symm.trans af;subst this;exact⟨{ x with key:=key,val:=val },by rw[u];exact List.mem_iff_getElem.2 ⟨j,by simpa using X,Ω⟩,rfl,A.symm⟩
   .exact⟨x,by rw[u];exact List.mem_iff_getElem.2 ⟨v,by simpa using X,by rw[List.getElem_set_ne e];exact Q⟩,rfl,rfl⟩
  have L:∀a∈n.toList,∃x∈d.toList,a.born=x.born/\a.key=x.key:=λa f=>by
   rw[u]at f;rcases ϑJ f with o|rfl
   .exact⟨a,o,rfl,rfl⟩
   .exact⟨e0,ϑC g,rfl,A.symm⟩
  have a5:∀x∈d.toList,∀a∈n.toList,a.key=x.key->(rg P k JF a).1=(rg P k JF x).1:=λx c a f e=>by obtain⟨E,q⟩:=F.reads x c;obtain⟨y',a8⟩:=G.reads a f;rw[rg_of q,rg_of a8];have a1:=rd_key q;have H:=rd_key a8;rw[e,a1]at H;exact(Option.some.inj H).symm
  refine⟨D',lf,⟨n,M,ax,seen,c0,T,G,ap,ac, ?_,λa f=>?_, ?_,λa f=>?_,λOz ah=>?_,aq,ar⟩,ab,a9,ak,al⟩
  .rw[U.block r (Array.getElem?_eq_some_iff.1 hr).1 (λe=>an (by cases e;rfl))];exact hr
  .obtain⟨x,c,o,_⟩:=L a f;rw[o];exact ao x c
  .rw[KQ,ad,<- KQ];exact ae
  .obtain⟨x,c,o,S⟩:=L a f;rw[a5 x c a f S,o];exact ai x c
  .obtain⟨x,c,o⟩:=aj Oz ah;obtain⟨a,f,S,h6⟩:=aw x c;exact⟨a,f,(a5 x c a f h6).trans o⟩
def wS{f:Array Oper}{g:List Oper}{o:Oper}{a:Act}{Q:Exit->Act->World->Prop}(l:o.guard=none)(d x v:Operand)(t:TypeId)(u:o.op=Op.mapUpdate t d x v)(e:TypeId)(K:Keyed P k)(A:P.underlying t=some (.map k e))(q:a.eval d=.map (some b))(h:dY P k w b r N m left cnt)(s:N<maxLen)(key val:Value)(D:Lit)(C:a.eval x=key)(B:a.eval v=val)(p:keyOf P k key=some D)(n:(m key).isSome=true)(i:∀c,dY P k c b r N (upd m key val) left cnt->w.grownBy c (some b)->c.heap.size=w.heap.size->wpList P f Q g (a.put o.dst undef) c):wpList P f Q (o::g) a w:=by refine wpList_plain l λH j=>?_;obtain⟨c,y,E,F,G⟩:=h.store K A s val p n;unfold Oper.wp;simp[execOp,u,q,C,B,y,Result.andThen];exact j _ _ (i c E F G)
