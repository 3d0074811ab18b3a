import Derived.Shelf.SlSortCmp.NoneTotal
import Derived.Test.YtfmmllpjgkgeaaaGreatDoorPartS08
import Derived.Test.YtfmmllpjgkgeaaaGreatDoorPartS11
set_option linter.unusedVariables false
set_option linter.unusedSimpArgs false
set_option maxHeartbeats 16000000
set_option maxRecDepth 100000
namespace Go.Proofs.YtfmmllpjgkgeaaaGreatDoor
section
open Go.Proofs.Tryz Go.RowKit Go.Maps Go.WideMaps Go.Shelf
attribute [local go_sem] Oper.semAt_some
theorem Tryz.infoDot:(prog.info? 134).map (λi=>(i.zero,i.size,i.bytes))=some (some (.agg #[.int .i64 0,.int .i64 0]),2,16):=by kernel_rfl
def aF(ns:List Nat):List Value:=ns.flatMap λn:Nat=>[.int .i64 (who n),.int .i64 (nth n)]
theorem lQ(ns:List Nat)(n:Nat):aF (ns++[n])=aF ns++[.int .i64 (who n),.int .i64 (nth n)]:=by simp[aF]
theorem wP(w:World)(gf:Nat)(lb:Array Value)(S:List Nat->Prop)(E:Nat->Prop)(U:Iter prog gf lb (λn:Nat=>#[Value.agg #[.int .i64 (who n),.int .i64 (nth n)]]) S E w)(L:∀x w,(callFunc gf x).run prog w=.ok (.enter gf x) w)(ac:∀k,E k->k<w.heap.size)(M:∀f,S f->f.length<=4000):Calls prog 278 #[.slice none 0 0,.func (.func gf) #[] lb] w λK w'=>∃v f,K=.returned v/\S f/\w'.ownsRow w.heap.size 134 2 v f.length (aF f)/\Below w.heap.size w w':=by
 obtain⟨i0,R,a2,a3,a4⟩:=info_parts Tryz.infoDot;refine(callsIn_wide (n:=3)).1 ?_;refine callsIn_of_wp_marks func278 rfl trivial ?_ rfl;simp only[ntmps278,List.size_toArray,δ,List.length_nil,Nat.reduceAdd,Nat.reduceSub,Array.replicate_succ,Array.replicate_zero,List.push_toArray,List.append_toArray,List.nil_append,List.cons_append];gi_wp2;have g:Below w.heap.size w (w.alloc (.cells #[.slice none 0 0] 137)):=(φ _ w).alloc (χ _) _;refine dP (gf:=gf) (lb:=lb) rfl L U ⟨g.size,λk a=>g.block k (ac k a)⟩ (λk a=>ο (ac k a) g.size) (λ_=>rfl)
  (λT b W=>Coll w w.heap.size 137 134 2 (aF b) b.length T W) (λ_ _ _ _=>False)
  (λT T' b W W' h P e=>h.je P e) (λ_ _ _ _ _ _ h _ _=>h)
  ⟨_,Boxed.new w _ _,World.ownsRow_nil _ _ _ _,λh=>h,λ_ _ h=>h,g,λ_ h=>h.elim,χ _⟩ ?round ?done ?stop
 case round =>
  rintro l T b n W a6 e⟨v,d⟩ Bv ⟨ys,a1,a0⟩;have aa:b.length+1<=4000:=by have:=M ys a1;have:=a0.length_le;simp at this;omega
  gi_wp2;refine⟨⟨Ω,λk a=>?_⟩, ?_⟩
  .exact((φ _ W).alloc (χ _) _).block k (a.elim (λh=>ο (ο (ac k h) g.size) (by have:=d.bx.lt;have:=d.below.size;simp;omega)) (λh=>(e k h).2))
  intro ab p F hE2;have B:∀k,T k->k<ab.heap.size:=λk a=>by rw[F];have:=(e k a).2;simp;omega
  have j:fC w w.heap.size 137 134 2 (aF b) b.length T ab v:=d.je ((Chg.of_below ((φ _ W).alloc (χ _) _)).trans p) (λk a=>⟨τ a,B k a⟩);have q:ah ab W.heap.size #[.int .i64 (who n),.int .i64 (nth n)] 134:=(ah.new W _ _).chg p (λa=>by have:=(e _ a).2;omega);have H:=j.bx.cell;have d0:=(q.cell 0).trans rfl;have d1:=(q.cell 1).trans rfl;have t:J<|fC w w.heap.size 137 134 2 (aF b) b.length T ab v:=j;have a7:w.heap.size<=ab.heap.size:=j.below.size;have Z:J<|b.length+1<=maxLen:=by unfold J maxLen;omega
  have Y:J<|(b.length+1)*16<=140737488355328:=ω V
  have G:J<|∀o u,([.int .i64 (who n),.int .i64 (nth n)]:List Value)[o]?=some u->(ab.alloc (.cells #[.int .i64 (who n),.int .i64 (nth n)] 134)).cell? (((z ab.heap.size):Addr).add o)=some u:=λo u i=>by
   match o,i with
   | 0,i=>cases i;simp[Addr.add]
   | 1,i=>cases i;simp[Addr.add]
  clear d j q p hE2 F;gi_wp2_with (first|(gi_at_builtin;refine wpListIn_append_own_at _ rfl (.tmp 8) (.tmp 10) 137 rfl w.heap.size 134 i0 (.agg #[.int .i64 0,.int .i64 0]) 2 16 underlying137 R a2 a3 a4 rfl Ψ v b.length (aF b) rfl (t.o.row.alloc _) (z ab.heap.size) 1 1 [.int .i64 (who n),.int .i64 (nth n)] rfl rfl G.o (by simp[Value.oneCell']) Z.o Y.o Θ ?_;intro v' w1 C Q _ X;have m:=t.o.app (E:=E) Ψ C Q X B ac;obtain⟨g',a5,rfl⟩:=ownsRow_succ C;have a8:=m.1.cell;have a9:=m.1.frozen));refine⟨?_,m.2.2⟩;have y:=m.2.1;rw[<- lQ]at y;exact⟨_,by rw[ρ];exact y⟩
 case done =>
  rintro D T r W hD sG N⟨v,d⟩ e A;have H:=d.bx.cell;have s:J<|fC w w.heap.size 137 134 2 (aF r) r.length T W v:=d;clear d;gi_wp2;refine⟨Ω,.inl ⟨_,_,rfl,run_takeDeferred A, ?_⟩⟩;refine⟨_,results_tmp rfl _ _ _,v,r,rfl,N, ?_, ?_⟩
  .exact ownsRow_putObj s.o.row _ A rfl
  .have:=(s.o.je (T':=T) (bJ W D (.deferred none) sG) (λk a=>⟨τ a,by rw[aV];exact(e k a).2⟩)).below;exact this
 case stop =>rintro D T c b W _ _ h;exact h.elim
end
section
open Go.Proofs.Tryz Go.RowKit Go.Maps Go.WideMaps Go.Shelf Go.Sort
theorem oC:∀(ns:List Nat)(i:Nat)(h:i<ns.length),(aF ns)[i*2]?=some (.int .i64 (who ns[i]))/\(aF ns)[i*2+1]?=some (.int .i64 (nth ns[i])):=by
 intro ns;induction ns with
 | nil=>intro i h;simp at h
 | cons n r ih =>
  intro i h;have e:aF (n::r)=[.int .i64 (who n),.int .i64 (nth n)]++aF r:=rfl;rw[e];cases i with
  | zero=>exact⟨rfl,rfl⟩
  | succ i =>have:=ih i (by simpa using h);rw[show(i+1)*2=i*2+2 by omega];exact⟨by rw[ϋ Ω];simpa using this.1,by rw[ϋ Ω];simpa using this.2⟩
def qE(n:Nat):List Value:=[.int .i64 (who n),.int .i64 (nth n)]
theorem uy{w:World}{base g i:Nat}{ns:List Nat}(h:w.ownsRow base 134 2 (.slice (some (z g)) ns.length i) ns.length (aF ns)):HoldsK qE 2 w g 0 ns.toArray:=by
 intro j a;rw[size_flatK]at a;simp at a;have m:w.frozen? (O g (0+j))=false:=by
  obtain⟨_,⟨l,_⟩|⟨q,o,p,f,_,n,_⟩⟩:=h
  .cases l
  .simp only[Value.slice.injEq,Option.some.injEq,Addr.mk.injEq,true_and,and_true]at f;obtain⟨rfl,rfl⟩:=f;simp[World.frozen?,n]
 refine⟨?_,m⟩;rw[get_flatK _ _ _ _ (by simpa using a),Nat.zero_add,h.cellAt j a];have d:j / 2<ns.length:=V
 have c:=oC ns (j / 2) d;have k:ns.toArray[j / 2]! = ns[j / 2]:=by simp[d]
 rw[k];rcases Nat.mod_two_eq_zero_or_one j with b|b
 .have e:j=j / 2*2:=V
  rw[b]
  conv=>lhs;rw[e]
  rw[c.1];(first|done|rfl)
 .have e:j=j / 2*2+1:=V
  rw[b]
  conv=>lhs;rw[e]
  rw[c.2];(first|done|rfl)
theorem Gw(x y:Nat):ltOf (λx y:Nat=>Lib.compareInt x y) x y=decide (x<y):=by
 unfold ltOf Lib.compareInt;by_cases b:(x:Int)<y
 .have:x<y:=V
  simp[this]
 .have a:¬x<y:=V
  by_cases c:(y:Int)<x
  .have:y<x:=V
   simp[a,this]
  .have:¬y<x:=V
   simp[a,this]
theorem SL:SWO (ltOf λx y:Nat=>Lib.compareInt x y):={
 irrefl x:=by rw[Gw];simp
 trans x y z h1 h2:=by rw[Gw]at *;simp at *;omega
 ntrans x y z h1 h2:=by rw[Gw]at *;simp at *;omega }
theorem EN(a b size:Nat)(w:World):CmpLays prog 205 #[] qE 2 (λx y:Nat=>Lib.compareInt x y) a b size w :=
 λ_ _ _ _ x y=>Bo _ x y
theorem Tryz.isAggDot(w:World):(isAgg 134).run prog w=.ok true w:=by kernel_rfl
theorem Tryz.sizeOfDot(w:World):(Go.sizeOf 134).run prog w=.ok 2 w:=by kernel_rfl
theorem rV{c:Type} [Inhabited c] (e:c->List Value) (k:Nat) (w:World) (a f m:Nat) (d:Array c) (g:Array Obj):Chg (λb=>b=a) w (sortWorldK e k w a f m d g):=by refine⟨rfl,rfl,rfl,size_sortWorldK_c e k w a f m d g,λb i j=>?_⟩;unfold sortWorldK;rw[heap_grow_old _ _ (by simp[putRowK,putRow,mapBlock,Sort.ahead];exact i)];simp only[putRowK,putRow,mapBlock,Sort.ahead];rw[μ];rw[ύ (λh=>j (Eq.symm h))]
theorem o7(w:World)(base:Nat)(v:Value)(ns:List Nat)(t:w.ownsRow base 134 2 v ns.length (aF ns))(W:ns.length<=4000):Calls prog 250 #[v,.func (.func 205) #[] #[]] w λe b=>e=.returned (.tuple #[])/\∃p,p.Perm ns/\aU b v p/\Chg (λk=>v.ownBlock=some k) w b/\p.Pairwise (·<=·):=by
 have u:=t;obtain⟨X,⟨rfl,M⟩|⟨g,s,S,rfl,T,U,N,_⟩⟩:=t
 .have P:ns=[]:=List.eq_nil_of_length_eq_zero M;subst P;refine ψ (AnyF.slices_SortFunc_none Tryz.sortDot none 0 _ w) ?_;rintro e b⟨rfl,rfl⟩;exact⟨rfl,[],List.Perm.refl _,τ ⟨rfl,rfl⟩,Chg.refl _ _,List.Pairwise.nil⟩
 .have x:=uy u;have l:g<w.heap.size:=(u.lt g rfl).2;have G:=AnyQ.slices_SortFunc Tryz.sortDot 2 Tryz.isAggDot Tryz.sizeOfDot qE (λ_=>rfl) (λF v D=>by simp[qE]at D;rcases D with rfl|rfl<;>rfl) (λF R:Nat=>Lib.compareInt F R) SL 205 #[] g 0 s ns.toArray w (enters_of func205 (by kernel_rfl) rfl) (EN g 0 _ w) x l Θ;refine ψ G ?_;rintro e b⟨rfl,d',m,E,⟨o,_,B⟩,Q,rfl⟩;have y:=holdsK_sortWorldK qE 2 w g 0 m ns.toArray d' E l x o;have C:d'.toList.Perm ns:=by
   have d:(d'.extract 0 ns.toArray.size)=d':=by rw[<- o];exact Array.extract_size
   have f:(ns.toArray.extract 0 ns.toArray.size)=ns.toArray:=Array.extract_size;rw[d,f]at B;simpa using B
  have A:d'.toList.length=ns.length:=C.length_eq;refine⟨rfl,d'.toList,C,υ ⟨g,0,s,by rw[A],by rw[A];exact N,lt_sortWorldK _ _ _ _ _ _ _ _ l,λj a=>?_⟩,(rV qE 2 w g 0 m d' E).mono (λk _ L=>by subst L;rfl), ?_⟩
  rotate_left
  .refine List.pairwise_iff_getElem.2 λi j H a K=>?_;have h:=Q i j (Nat.zero_le _) K (by rw[<- o];simpa using a);rw[Gw]at h;have d:d'[i]! = d'.toList[i]:=by simp[show i<d'.size by simpa using H]
   have f:d'[j]! = d'.toList[j]:=by simp[show j<d'.size by simpa using a]
   rw[d,f]at h;simp only[decide_eq_false_iff_not]at h;omega
  have n:j<d'.size:=by simpa using a
  have q:=(y.cell n (c:=0) V).1;have r:=(y.cell n (c:=1) V).1;have e:d'[j]! = d'.toList[j]:=by simp[n]
  rw[e]at q r;exact⟨q,r⟩
theorem qZ(w:World)(gf:Nat)(lb:Array Value)(S:List Nat->Prop)(E:Nat->Prop)(l:Iter prog gf lb (λn:Nat=>#[Value.agg #[.int .i64 (who n),.int .i64 (nth n)]]) S E w)(d:∀c w,(callFunc gf c).run prog w=.ok (.enter gf c) w)(i:∀k,E k->k<w.heap.size)(j:∀a,S a->a.length<=4000):Calls prog 249 #[.func (.func gf) #[] lb] w λe w'=>∃v a,e=.returned v/\S a/\w'.ownsRow w.heap.size 134 2 v a.length (aF a)/\Below w.heap.size w w':=by have b:J<|_:=wP w gf lb S E l d i j;clear l d i j;go_enter func249,ntmps249;go_wp2_with fail;refine ψ b.o ?_;rintro e m⟨v,a,rfl,f,g,h⟩;have o:J<|S a/\m.ownsRow w.heap.size 134 2 v a.length (aF a)/\Below w.heap.size w m:=⟨f,g,h⟩;clear f g h b;go_wp2;go_ret;exact⟨v,a,rfl,o.o⟩
theorem uz(w:World)(gf:Nat)(lb:Array Value)(It:Nat->Option Value)(E:Nat->Prop)(t:Iter prog gf lb (λn:Nat=>#[Value.agg #[.int .i64 (who n),.int .i64 (nth n)]]) (AllOf It) E w)(m:∀l w,(callFunc gf l).run prog w=.ok (.enter gf l) w)(s:∀k,E k->k<w.heap.size)(B:∀n,It n≠none->okD n):Calls prog 203 #[.func (.func gf) #[] lb,.func (.func 205) #[] #[]] w λe w'=>∃v a,e=.returned v/\AllOf It a/\aU w' v a/\(∀b,v.ownBlock=some b->w.heap.size<=b)/\Below w.heap.size w w':=by
 have f:∀a,AllOf It a->a.length<=4000:=λa o=>by have:=gX 3072 a o.1 (λn F=>iV (B n ((o.2 n).1 F)));omega
 have A:J<|∀a,AllOf It a->a.length<=4000:=f;have j:J<|_:=qZ w gf lb (AllOf It) E t m s f;clear t m s f;go_enter func203,ntmps203;go_wp2_with fail;refine ψ j.o ?_;rintro e i⟨v,a,rfl,p,q,r⟩;have c:J<|AllOf It a/\i.ownsRow w.heap.size 134 2 v a.length (aF a)/\Below w.heap.size w i:=⟨p,q,r⟩;clear p q r j;go_wp2_with fail;refine ψ (o7 i _ v a c.o.2.1 (A.o a c.o.1)) ?_;rintro e x⟨rfl,h,g,u,d,_⟩;have y:J<|AllOf It h/\aU x v h/\(∀b,v.ownBlock=some b->w.heap.size<=b)/\Below w.heap.size w x:=⟨⟨g.nodup_iff.2 c.o.1.1,λn=>(g.mem_iff).trans (c.o.1.2 n)⟩,u,λb C=>(c.o.2.1.lt b C).1,c.o.2.2.trans ⟨d.os,d.tape,d.output,d.size,λk D=>d.block k (ο D c.o.2.2.size) (λe=>by have:=(c.o.2.1.lt k e).1;omega)⟩⟩;clear g u d c;go_wp2;go_ret;exact⟨v,h,rfl,y.o⟩
theorem zh(w:World)(io co lo:Option Nat):Calls prog 148 #[.agg #[.map io,.map co,.map lo]] w λe a=>e=.returned (.func (.func 202) #[] #[.pointer (some (z w.heap.size))])/\a=w.alloc (.cells #[.map io,.map co,.map lo] 102):=by go_enter func148,ntmps148;go_wp2;go_ret;exact⟨rfl,rfl⟩
end
section
open Go.Proofs.Tryz Go.RowKit Go.Maps Go.WideMaps Go.Shelf
attribute [local go_sem] Oper.semAt_some
structure dV where
 n:Nat
 p:ByteArray
 a:Int
 v:ByteArray
 m:Int
noncomputable def wF(It:Nat->Option Value)(n:Nat):dV:=@dite _ (∃x:dV,x.n=n/\It n=some (.agg #[.string x.p,.int .u8 x.a,.string x.v,.int .i64 x.m])) (Classical.propDecidable _) (λh=>Classical.choose h) (λ_=>⟨n,⟨#[]⟩,0,⟨#[]⟩,0⟩)
theorem Lh(It:Nat->Option Value)(n:Nat):(wF It n).n=n:=by
 unfold wF;split
 .rename_i h;exact(Classical.choose_spec h).1
 .rfl
theorem Lj{It:Nat->Option Value}{n:Nat}{v:Value}(h:It n=some v)(b:nX v):It n=some (.agg #[.string (wF It n).p,.int .u8 (wF It n).a,.string (wF It n).v,.int .i64 (wF It n).m]):=by obtain⟨c,e,d,f,rfl⟩:=b;unfold wF;have a:∃x:dV,x.n=n/\It n=some (.agg #[.string x.p,.int .u8 x.a,.string x.v,.int .i64 x.m]):=⟨⟨n,c,e,d,f⟩,rfl,h⟩;rw[dif_pos a];exact(Classical.choose_spec a).2
def gY(It:Nat->Option Value)(xs:List dV):Prop:=AllOf It (xs.map dV.n)/\∀x∈xs,It x.n=some (.agg #[.string x.p,.int .u8 x.a,.string x.v,.int .i64 x.m])
theorem Gx{It:Nat->Option Value}{ns:List Nat}(h:AllOf It ns)(c:∀n v,It n=some v->nX v):gY It (ns.map (wF It)):=by
 refine⟨?_,λx d=>?_⟩
 .have e:(ns.map (wF It)).map dV.n=ns:=by rw[List.map_map];exact(List.map_congr_left (λn _=>Lh It n)).trans (List.map_id _)
  rw[e];exact h
 .obtain⟨n,b,rfl⟩:=ι.1 d;obtain⟨v,a⟩:=Option.ne_none_iff_exists'.1 ((h.2 n).1 b);rw[Lh];exact Lj a (c n v a)
theorem qF(w0:World)(d:Nat)(io co lo:Option Nat)(It:Nat->Option Value)(N:Nat)(a:ah w0 d #[.map io,.map co,.map lo] 102)(hM:aW prog 134 w0 (.map io) N (im It))(H:∀n,It n≠none->okD n)(hv:∀n v,It n=some v->nX v):Iter prog 202 #[.pointer (some (z d))] (λx:dV=>#[aA x.n,Value.agg #[.string x.p,.int .u8 x.a,.string x.v,.int .i64 x.m]]) (gY It) (λk=>k=d\/io=some k) w0:=by
 intro l t Jx W hE hJ b3 hY h0;have M:ah W d #[.map io,.map co,.map lo] 102:=(hE.2 d (τ rfl)).trans a;have c0:W.cell? (z d)=some (.map io):=(M.cell 0).trans rfl;have E:aW prog 134 W (.map io) N (im It):=by
  rcases hM with h|⟨b,u,h⟩
  .exact τ h
  .exact υ ⟨b,u,h.block (hE.2 b (υ (by cases u;rfl)))⟩
 have ap:∀k,(k=d\/io=some k)->k<W.heap.size:=by
  rintro k (rfl|h)
  .exact M.lt
  .exact E.lt k (by rw[h])
 clear hM a;have a3:J<|_:=Lc W io;have X7:J<|∀m,m=W.alloc (.cells #[.map io] 96)->Calls prog 203 #[.func (.func 251) #[] #[.pointer (some (z W.heap.size))],.func (.func 205) #[] #[]] m λf w'=>∃v ns,f=.returned v/\AllOf It ns/\aU w' v ns/\(∀b,v.ownBlock=some b->W.heap.size<=b)/\Below W.heap.size W w':=λm hx=>by
  subst hx;have u:Below W.heap.size W (W.alloc (.cells #[.map io] 96)):=(φ _ W).alloc (χ _) _;refine ψ (uz _ _ _ It _ (EL _ W.heap.size io It N (ah.new W _ _) (E.below u) H) (enters_of func251 (by kernel_rfl) rfl) ?_ H) ?_
  .rintro k (rfl|h)
   .simp
   .have:=ap k (υ h);simp;omega
  .rintro f w'⟨v,ns,rfl,b6,s,b7,q⟩;exact⟨v,ns,rfl,b6,s,λb K=>by have:=b7 b K;simp at this;omega,u.trans (q.mono Ω)⟩
 refine callsIn_of_wp func202 rfl trivial ?_ rfl;simp only[ntmps202,List.size_toArray,δ,List.length_nil,Nat.reduceAdd,Nat.reduceSub,Array.replicate_succ,Array.replicate_zero,List.push_toArray,List.append_toArray,List.nil_append,List.cons_append];gi_wp2_with fail;refine⟨trivial,(callsIn_wide.2 a3.o).mono ?_⟩;rintro f w1⟨rfl,rfl⟩;gi_wp2_with fail;refine⟨trivial,(callsIn_wide.2 (X7.o _ rfl)).mono ?_⟩;rintro f w2⟨v,ns,rfl,A,b8,av,L⟩;obtain⟨T,Y⟩:∃T:Nat->Prop,T=λk=>v.ownBlock=some k:=⟨_,rfl⟩;have a7:∀k,T k->k<w2.heap.size:=λk a=>by
  rw[Y]at a;rcases b8 with⟨rfl,_⟩|⟨b,a0,cap,rfl,_,b7,_⟩
  .cases a
  .cases a;exact b7
 have a5:t T [] w2:=hJ _ _ _ _ _ h0 (Chg.of_below L) (λk a=>⟨υ (by rw[Y]at a;exact av k a),a7 k a⟩);have ar:∃G cap,v=.slice G ns.length cap/\ns.length<=cap:=by
  rcases b8 with⟨rfl,rfl⟩|⟨b,a0,cap,rfl,s,_⟩
  .exact⟨none,0,rfl,χ _⟩
  .exact⟨_,cap,rfl,s⟩
 obtain⟨G,cap,zi,b4⟩:=ar;have b0:ns.length<=3072:=gX 3072 ns A.1 (λn hn=>iV (H n ((A.2 n).1 hn)));have a1:J<|t T [] w2:=a5;have D:J<|ah w2 d #[.map io,.map co,.map lo] 102/\aW prog 134 w2 (.map io) N (im It)/\aU w2 v ns:=⟨M.below L,E.below L,b8⟩;clear a5 b8 L X7 a3 M E c0;subst zi;gi_wp2_with fail
 gi_loopg [10] ns.length (λg az m=>∃i:Nat,i+g=ns.length/\az=.int .i64 i/\t T ((ns.take i).map (wF It)) m/\ah m d #[.map io,.map co,.map lo] 102/\aW prog 134 m (.map io) N (im It)/\aU m (.slice G ns.length cap) ns/\w2.heap.size<=m.heap.size)
 case atStart=>exact⟨0,V,rfl,a1.o,D.o.1,D.o.2.1,D.o.2.2,χ _⟩
 case round =>
  obtain⟨i,b5,rfl,a6,a9,ad,b8,b1⟩:=hrel;have a2:J<|t T ((ns.take i).map (wF It)) wr:=a6;have B:J<|ah wr d #[.map io,.map co,.map lo] 102/\aW prog 134 wr (.map io) N (im It)/\aU wr (.slice G ns.length cap) ns:=⟨a9,ad,b8⟩;clear a1 D a6 a9 ad;by_cases y:i<ns.length
  .obtain⟨b,a0,b2,af,_,u,Z⟩:=b8.resolve_left (λh=>by rw[h.2]at y;simp at y);simp only[Value.slice.injEq]at af;obtain⟨rfl,_,rfl⟩:=af;have k0:=(Z i y).1;have k1:=(Z i y).2;clear b8 Z;have ac:ns[i]∈ns:=κ y;have a8:ns.take (i+1)=ns.take i++[ns[i]]:=ν y;obtain⟨vi,ae⟩:=Option.ne_none_iff_exists'.1 ((A.2 _).1 ac);have a4:=Lj ae (hv _ _ ae);have aa:=Lh It ns[i];have V5:=H _ ((A.2 _).1 ac);have aq:∃ys,gY It ys/\(ns.take i).map (wF It)++[wF It ns[i]] <+: ys:=⟨ns.map (wF It),Gx A hv,by rw[<- List.map_singleton,<- List.map_append,<- a8];exact(List.take_prefix _ _).map _⟩;have bQ:J<|(ns.take (i+1)).map (wF It)=(ns.take i).map (wF It)++[wF It ns[i]]:=by show _=_;rw[a8,List.map_append];(first|done|rfl)
   generalize ns[i]=n at *;generalize wF It n=x at *;obtain⟨c,Q,S,R,U⟩:=x;simp only at aa a4;subst aa;gi_wp2_with fail;have P:ah (wr.alloc (.cells #[.int .i64 (who c),.int .i64 (nth c)] 134)) wr.heap.size #[.int .i64 (who c),.int .i64 (nth c)] 134:=ah.new wr _ _;have r:Below wr.heap.size wr (wr.alloc (.cells #[.int .i64 (who c),.int .i64 (nth c)] 134)):=(φ _ wr).alloc (χ _) _;generalize wr.alloc (.cells #[.int .i64 (who c),.int .i64 (nth c)] 134)=e at *;have d0:e.cell? (z wr.heap.size)=some (.int .i64 (who c)):=(P.cell 0).trans rfl;have d1:e.cell? (O wr.heap.size 1)=some (.int .i64 (nth c)):=(P.cell 1).trans rfl;have ag:e.cell? (z d)=some (.map io):=((B.o.1.below r).cell 0).trans rfl;obtain⟨kl,an⟩:=keyE c (by have:=V5.1;omega);have ab:(Instr.lookup 96 (.map io) (.agg #[.int .i64 (who c),.int .i64 (nth c)]) false).run prog e.drew=.ok (.agg #[.string Q,.int .u8 S,.string R,.int .i64 U]) e.drew:=by have b6:=((B.o.2.1.below r).below (φ _ e).drew).look fG underlying96 (VL _) an;rw[eP,a4]at b6;exact b6
   have SE:t T ((ns.take i).map (wF It)) e.drew:=hJ _ _ _ _ _ a2.o (Chg.of_below (r.drew)) (λk a=>⟨τ a,by have:=a7 k a;have:=r.size;show k<e.heap.size;omega⟩);obtain⟨fn,ax,ai,aj,hy,Iy⟩:=hY T _ ⟨c,Q,S,R,U⟩ _ SE aq;try dsimp only at hy
   have X:RoundIn Fence.wide 3 prog l fn ax ai aj e.drew λf F=>∃C:Bool,f=.returned (.bool C)/\(C=true->t T ((ns.take i).map (wF It)++[⟨c,Q,S,R,U⟩]) F/\aK (λk=>(k=d\/io=some k)\/T k) e.drew F)/\(C=false->Jx T ((ns.take i).map (wF It)++[⟨c,Q,S,R,U⟩]) F):=Iy.mono (by
    rintro f F (⟨rfl,b6,s⟩|⟨rfl,b6,_⟩)
    .exact⟨true,rfl,λ_=>⟨b6,s⟩,λh=>by cases h⟩
    .exact⟨false,rfl,(λh=>by cases h),λ_=>b6⟩)
   have HK:J<|∀o,aK (λk=>(k=d\/io=some k)\/T k) e.drew o->ah o d #[.map io,.map co,.map lo] 102/\aW prog 134 o (.map io) N (im It)/\aU o (.slice (some (O b a0)) ns.length cap) ns/\w2.heap.size<=o.heap.size:=λo a=>by
    have e1:=B.o.1.below r;have e2:=B.o.2.1.below r;have e3:=B.o.2.2.below r;refine⟨(a.2 d (τ (τ rfl))).trans e1, ?_, ?_,by have:=a.1;have:=r.size;simp only[World.drew]at *;omega⟩
    .rcases e2 with h|⟨p,K,h⟩
     .exact τ h
     .exact υ ⟨p,K,h.block (a.2 p (τ (υ (by cases K;rfl))))⟩
    .rcases e3 with⟨h,_⟩|⟨p,aw,ak,b6,s,b7,q⟩
     .cases h
     .have al:p=b:=by cases b6;rfl
      have f:∀i,o.cell? (O p i)=e.cell? (O p i):=λi=>η (w:=e) (a.2 p (υ (by rw[Y,al];rfl)));exact υ ⟨p,aw,ak,b6,s,ο b7 a.1,λj hj=>⟨(f _).trans (q j hj).1,(f _).trans (q j hj).2⟩⟩
   gi_region_with (first|(refine RoundIn.mono (cZ X) ?_;rintro f o⟨C,rfl,b7,q⟩))
   all_goals
    cases C with
    | true =>
     have H3:J<|_:=b7 rfl;clear b7 q X hy ab d0 d1 ag P;gi_wp2_with fail
     gi_roundg (ns.length-(i+1))
     case measure=>omega
     case rel=>exact⟨i+1,V,Λ,by rw[bQ.o];exact H3.o.1,HK.o _ H3.o.2⟩
    | false =>have H4:J<|_:=q rfl;clear b7 q X hy ab d0 d1 ag P;gi_wp2_with fail;refine ϐ (results_none rfl _ _ _) rfl ?_;exact⟨⟨_,rfl⟩,υ ⟨_,T,H4.o⟩⟩
  .clear b8;gi_wp2_with fail
   go_end0
   refine⟨⟨_,rfl⟩,τ ⟨ns.map (wF It),Gx A hv,T, ?_⟩⟩;have:=a2.o;rw[List.take_of_length_le V]at this;exact this
end
section
open Go.Proofs.Tryz Go.RowKit
variable{p v:ByteArray}{n:Int}{b:Nat}{a:UInt8}{w:World}
theorem ng(s:ByteArray)(w:World)(c:s.size<=1048576):Calls prog 56 #[.string s] w λe w'=>e=.returned (.string s)/\Below w.heap.size w w':=by have a:J<|_:=Tryz.stringslite_Clone s w V;go_enter func56,ntmps56;go_wp2_with fail;refine ψ a.o ?_;rintro e d⟨rfl,b⟩;go_wp2;go_ret;exact⟨rfl,b⟩
structure bY(w:World)(b:Nat)(p:ByteArray)(a:UInt8)(v:ByteArray)(n:Int):Prop where
 tag:Tagged w b 86
 c0:w.cell? (z b)=some (.string p)
 c1:w.cell? (O b 1)=some (.int .u8 (a.toNat:Int))
 c2:w.cell? (O b 2)=some (.string v)
 c3:w.cell? (O b 3)=some (.int .i64 n)
theorem bY.chg{M:Nat->Prop}{d:World}(h:bY w b p a v n)(e:Chg M w d)(f:¬M b):bY d b p a v n:=by have c:∀i,d.cell? (O b i)=w.cell? (O b i):=λi=>η (w:=w) (e.block b h.tag.lt f);exact⟨h.tag.chg e f,(c 0).trans h.c0,(c 1).trans h.c1,(c 2).trans h.c2,(c 3).trans h.c3⟩
theorem bY.below{c:World}(h:bY w b p a v n)(d:Below w.heap.size w c):bY c b p a v n :=
 h.chg (Chg.of_below (M:=λ_=>False) d) (λh=>h)
theorem bY.set2(h:bY w b p a v n)(c:ByteArray):bY (w.setCell (O b 2) (.string c)) b p a c n :=
 ⟨h.tag.setCell _ _,(cs_oth (υ V)).trans h.c0,(cs_oth (υ V)).trans h.c1,cs_same h.c2,(cs_oth (υ V)).trans h.c3⟩
theorem bY.SS(h:bY w b p a v n)(n':Int):bY (w.setCell (O b 3) (.int .i64 n')) b p a v n' :=
 ⟨h.tag.setCell _ _,(cs_oth (υ V)).trans h.c0,(cs_oth (υ V)).trans h.c1,(cs_oth (υ V)).trans h.c2,cs_same h.c3⟩
theorem bY.set0(h:bY w b p a v n)(c:ByteArray):bY (w.setCell (z b) (.string c)) b c a v n :=
 ⟨h.tag.setCell _ _,cs_same h.c0,(cs_oth (υ V)).trans h.c1,(cs_oth (υ V)).trans h.c2,(cs_oth (υ V)).trans h.c3⟩
theorem bY.set1(h:bY w b p a v n)(c:UInt8):bY (w.setCell (O b 1) (.int .u8 (c.toNat:Int))) b p c v n :=
 ⟨h.tag.setCell _ _,(cs_oth (υ V)).trans h.c0,cs_same h.c1,(cs_oth (υ V)).trans h.c2,(cs_oth (υ V)).trans h.c3⟩
theorem bY.SV{c i:Nat}(h:bY w b p a v n)(d:b≠c)(u:Value):bY (w.setCell (O c i) u) b p a v n :=
 h.chg ((Chg.refl (λk=>k=c) w).setCell (p:=(O c i)) rfl u) d
theorem jW(w:World)(p:ByteArray)(a:UInt8)(v:ByteArray)(n:Int):bY (w.alloc (.cells #[.string p,.int .u8 (a.toNat:Int),.string v,.int .i64 n] 86)) w.heap.size p a v n:=by have h:(w.alloc (.cells #[.string p,.int .u8 (a.toNat:Int),.string v,.int .i64 n] 86)).heap[w.heap.size]?=some (.cells #[.string p,.int .u8 (a.toNat:Int),.string v,.int .i64 n] 86 (0,0)):=heap_alloc_new _ _;refine⟨⟨_,h⟩, ?_, ?_, ?_, ?_⟩<;>rw[World.cell?_alloc_at _ _ _ _ rfl]<;>rfl
theorem EO(p:ByteArray)(a:UInt8)(v:ByteArray)(n:Int)(w:World)(D:p.size<=1048576)(E:v.size<=1048576):Calls prog 85 #[.agg #[.string p,.int .u8 (a.toNat:Int),.string v,.int .i64 n]] w λf w'=>f=.returned (.agg #[.string p,.int .u8 (a.toNat:Int),.string v,.int .i64 n])/\Below w.heap.size w w':=by
 have q:J<|∀o,bY ((w.alloc (.cells #[.string p,.int .u8 (a.toNat:Int),.string v,.int .i64 n] 86)).alloc o) w.heap.size p a v n:=λo=>(jW w p a v n).below ((φ _ _).alloc (χ _) o);have r:J<|∀o,bY ((w.alloc o).alloc (.cells #[.string ⟨#[]⟩,.int .u8 0,.string ⟨#[]⟩,.int .i64 0] 86)) (w.heap.size+1) ⟨#[]⟩ 0 ⟨#[]⟩ 0:=λo=>by
  have:=jW (w.alloc o) ⟨#[]⟩ 0 ⟨#[]⟩ 0;have f:(w.alloc o).heap.size=w.heap.size+1:=Ω
  rw[f]at this;exact this
 have s:J<|∀o l,Below w.heap.size w ((w.alloc o).alloc l):=λo l=>((φ _ w).alloc (χ _) o).alloc Ω l;go_enter func85,ntmps85;go_wp2_with fail;refine ψ (ng p _ D) ?_;rintro f e⟨rfl,g⟩;have b:bY e w.heap.size p a v n:=(q.o _).below g;have c:bY e (w.heap.size+1) ⟨#[]⟩ 0 ⟨#[]⟩ 0:=(r.o _).below g;have j:J<|Below w.heap.size w e:=(s.o _ _).trans (g.mono Θ);clear g;have t:=b.c0;have u:=b.c1;have x:=b.c2;have y:=b.c3;have A:=b.tag.frozen;have m:J<|bY e w.heap.size p a v n:=b;have i:J<|bY e (w.heap.size+1) ⟨#[]⟩ 0 ⟨#[]⟩ 0:=c;clear b c q r s;go_wp2_with fail;refine ψ (ng v _ E) ?_;rintro f d⟨rfl,h⟩;have b:bY d w.heap.size p a v n:=(m.o.set0 p).below h;have c:bY d (w.heap.size+1) ⟨#[]⟩ 0 ⟨#[]⟩ 0:=(i.o.chg ((Chg.refl (λk=>k=w.heap.size) e).setCell (p:=(z w.heap.size)) rfl (.string p)) Ω).below h;have B:J<|Below w.heap.size w d:=(j.o.setCell (p:=(z w.heap.size)) (χ _) (.string p)).trans (h.mono (by have:=j.o.size;simpa[World.setCell]using this));clear h t u x y A;have t:=b.c0;have u:=b.c1;have x:=b.c2;have y:=b.c3;have A:=b.tag.frozen;have G:=c.c0;have H:=c.c1;have K:=c.c2;have L:=c.c3;have M:=c.tag.frozen;have i:J<|bY d (w.heap.size+1) ⟨#[]⟩ 0 ⟨#[]⟩ 0:=c;clear b c m j;go_wp2;have hF:bY (((((d.setCell (O w.heap.size 2) (.string v)).setCell (z (w.heap.size+1)) (.string p)).setCell (O (w.heap.size+1) 1) (.int .u8 (a.toNat:Int))).setCell (O (w.heap.size+1) 2) (.string v)).setCell (O (w.heap.size+1) 3) (.int .i64 n)) (w.heap.size+1) p a v n :=
  ((((i.o.SV V _).set0 p).set1 a).set2 v).SS n
 have C:Below w.heap.size w (((((d.setCell (O w.heap.size 2) (.string v)).setCell (z (w.heap.size+1)) (.string p)).setCell (O (w.heap.size+1) 1) (.int .u8 (a.toNat:Int))).setCell (O (w.heap.size+1) 2) (.string v)).setCell (O (w.heap.size+1) 3) (.int .i64 n)) :=
  ((((B.o.setCell (p:=(O w.heap.size 2)) (χ _) _).setCell (p:=(z (w.heap.size+1))) (Nat.le_succ _) _).setCell (p:=(O (w.heap.size+1) 1)) (Nat.le_succ _) _).setCell (p:=(O (w.heap.size+1) 2)) (Nat.le_succ _) _).setCell (p:=(O (w.heap.size+1) 3)) (Nat.le_succ _) _
 generalize (((((d.setCell (O w.heap.size 2) (.string v)).setCell (z (w.heap.size+1)) (.string p)).setCell (O (w.heap.size+1) 1) (.int .u8 (a.toNat:Int))).setCell (O (w.heap.size+1) 2) (.string v)).setCell (O (w.heap.size+1) 3) (.int .i64 n))=F at *;refine ϐ (v:=.agg #[.string p,.int .u8 (a.toNat:Int),.string v,.int .i64 n]) (by simp[results,Tryz.results85,go_sem,hF.c0,hF.c1,hF.c2,hF.c3]) rfl ⟨rfl,C⟩
def au(a:UInt8)(t:ByteArray):ByteArray:=if a.toNat=43\/a.toNat=45\/a.toNat=61 then t else ByteArray.empty
theorem opA{p:Thk.Bs}{l:Thk.Bs}(b:a.toNat=43\/a.toNat=45\/a.toNat=61):(Thk.operand p a l).isRight=Thk.word Thk.lg 8 l/\∀c,Thk.operand p a l=.inr c->c.n=0:=by
 have d:Thk.val l=Thk.word Thk.lg 8 l:=rfl;unfold Thk.operand;rw[ώ b,d];cases Thk.word Thk.lg 8 l
 .simp
 .simp only[if_true,Sum.isRight_inr,Sum.inr.injEq,true_and];rintro c rfl;rfl
theorem opB{p:Thk.Bs}{l:Thk.Bs}(b:a.toNat=62):(Thk.operand p a l).isRight=(Thk.num l).isSome/\∀c,Thk.operand p a l=.inr c->Thk.num l=some c.n:=by
 unfold Thk.operand;rw[ύ V,ώ b];cases Thk.num l
 .simp
 .simp only[Sum.isRight_inr,Sum.inr.injEq,Option.isSome_some,true_and];rintro c rfl;rfl
theorem opC{p:Thk.Bs}{l:Thk.Bs}(b:¬(a.toNat=43\/a.toNat=45\/a.toNat=61))(d:¬a.toNat=62):(Thk.operand p a l).isRight=decide (l=[])/\∀c,Thk.operand p a l=.inr c->c.n=0:=by
 unfold Thk.operand;rw[ύ b,ύ d];by_cases h:l=[]
 .rw[ώ h];simp only[Sum.isRight_inr,Sum.inr.injEq,h,decide_true,true_and];rintro c rfl;rfl
 .rw[ύ h];simp[h]
theorem V6{t:ByteArray}(b:a.toNat=43\/a.toNat=45\/a.toNat=61):au a t=t:=ώ b
theorem QL{t:ByteArray}(b:¬(a.toNat=43\/a.toNat=45\/a.toNat=61)):au a t=ByteArray.empty:=ύ b
theorem rW(b:Nat)(p:ByteArray)(a:UInt8)(t:ByteArray)(w:World)(l:t.size<=1048576)(k:Glob w)(d:bY w b p a ByteArray.empty 0):Calls prog 84 #[.pointer (some (z b)),.string t] w λj w'=>j=.returned (.bool (Thk.operand (toL p) a (toL t)).isRight)/\(∀c,Thk.operand (toL p) a (toL t)=.inr c->bY w' b p a (au a t) c.n)/\Chg (· = b) w w':=by
 have r:=d.c0;have s:=d.c1;have u:=d.c2;have v:=d.c3;have y:=d.tag.frozen;have f:J<|bY w b p a ByteArray.empty 0:=d;have m:J<|_:=uf t w l k;clear k d;go_enter func84,ntmps84;go_wp2_with (first|(go_at_call 145;refine ψ m.o ?_;rintro j q⟨n,rfl,o,i⟩;have A:=(f.o.below i).c3;have B:=(f.o.below i).tag.frozen)|(go_at_call 143;refine(yR t 8 _ l V).mono ?_;rintro j q⟨rfl,rfl⟩))
 iterate 3
  .go_ret;have e:a.toNat=43\/a.toNat=45\/a.toNat=61:=by simp only[beq_iff_eq,ό]at *;omega
   refine⟨aG (opA e).1.symm,λc h=>?_,Chg.setCell (M:=λx=>x=b) (Chg.refl _ w) (p:=(O b 2)) rfl _⟩;rw[(opA e).2 c h,V6 e];exact f.o.set2 t
 .go_ret;have g:a.toNat=62:=by simp only[beq_iff_eq,ό]at *;omega
  refine⟨aG (opB g).1.symm,λc h=>?_,Chg.setCell (M:=λx=>x=b) (Chg.of_below i) (p:=(O b 3)) rfl _⟩;rw[<- o _ ((opB g).2 c h),QL V];exact(f.o.below i).SS n
 .go_ret;have e:¬(a.toNat=43\/a.toNat=45\/a.toNat=61):=by simp only[beq_iff_eq,ό]at *;omega
  have g:¬a.toNat=62:=by simp only[beq_iff_eq,ό]at *;omega
  refine⟨aG ?_,λc h=>?_,Chg.refl _ w⟩
  .rw[(opC e g).1,toList_eq];show(toL t).isEmpty=_;cases toL t<;>rfl
  .rw[(opC e g).2 c h,QL e];exact f.o
def bM:ByteArray:=⟨#[43,45,94,95,61,62,33]⟩
theorem o8:∀b∈bM.data.toList,b.toNat<128:=by decide +kernel
theorem uD(w:World)(s:ByteArray)(i:Nat):Below w.heap.size w (w.iter s i):=(φ _ w).alloc (χ _) _
theorem wQ(w:World):Calls prog 137 #[.string bM,.int .i32 65533] w λe w'=>e=.returned (.int .i64 (-1))/\Below w.heap.size w w':=by
 have m:bM.size=7:=rfl;have c:J<|∀i(h:i<bM.size),(bM[i]'h).toNat<128:=λi h=>o8 _ (Array.getElem_mem_toList (xs:=bM.data) h);generalize bM=s at *;go_enter func137,ntmps137;go_wp2_with fail;go_loopg [5,6] 7 (λg _ _ j=>∃i:Nat,i+g=7/\j=w.iter s i);case atStart=>exact⟨0,V,rfl⟩
 case round =>
  obtain⟨i,k,rfl⟩:=hrel;cases gk with
  | zero =>have d:=λb=>run_next_end (P:=prog) w s i b V;go_wp2;go_ret;exact⟨rfl,uD _ _ _⟩
  | succ g =>
   have a:i<s.size:=V
   have f:=c.o i a;have d:=λb=>run_next_ascii (P:=prog) w s i b a f;generalize (s[i]'a)=x at *;have l:((x.toNat:Int)==65533)=false:=ό.2 V;go_wp2;go_roundg g;case measure=>omega
   case rel=>exact⟨i+1,V,rfl⟩
theorem indexByte_none(c:UInt8):∀l:Thk.Bs,(∀b∈l,b≠c)->Lib.indexByte l c = -1:=by
 intro l;induction l with
 | nil=>intro _;rfl
 | cons x l ih =>
  intro h;have a:(x==c)=false:=by simpa using h x Ω
  have d:=ih (λb e=>h b (by simp[e]));rw[sD,a,d];(first|done|rfl)
theorem lS(id:Nat)(Q:Exit->Act->World->Prop)(a:Act)(w:World):Exit.inBlock id Q .ret a w=Q .ret a w:=rfl
theorem Bz(K:Act->World->Prop)(Q:Exit->Act->World->Prop)(a:Act)(w:World):Exit.then K Q .ret a w=Q .ret a w:=rfl
def Qb(s:ByteArray)(c:UInt8):Prop:=∀i j wx,Calls prog 81 #[.string (s.extract i j),.int .u8 (c.toNat:Int)] wx λe w'=>e=.returned (.int .i64 (-1))/\w'=wx
theorem uF(r:Int)(w:World)(d:128<=r)(l:r<=2147483647):Calls prog 137 #[.string bM,.int .i32 r] w λe w'=>e=.returned (.int .i64 (-1))/\Below w.heap.size w w':=by
 by_cases m:r=65533
 .subst m;exact wQ w
 have P:(r==65533)=false:=ό.2 m;have W:¬r<128:=V
 cases hv:Lib.validRune r
 .have c:J<|Lib.validRune r=false:=hv;clear hv;go_enter func137,ntmps137;go_wp2_with (go_at_call 193;refine(Tryz.utf8_ValidRune r _).mono ?_;rintro e t⟨rfl,rfl⟩;rw[c.o]);go_ret;exact⟨rfl,φ _ _⟩
 .have c:J<|Lib.validRune r=true:=hv;have q:Utf8.valid r=true:=by unfold Lib.validRune at hv;unfold Utf8.valid;simp at hv⊢;omega
  obtain⟨v,x,g⟩:=encode_facts r q d;clear hv q;obtain⟨n,F⟩:∃n,(Utf8.encode r).size=n+1:=⟨(Utf8.encode r).size-1,V⟩;have R:bM.size=7:=rfl;have f:J<|∀i(h:i<bM.size),(bM[i]'h).toNat<128:=λi h=>o8 _ (Array.getElem_mem_toList (xs:=bM.data) h);generalize bM=s at *;have C:∀wx,(convert 21 9 (.int .i32 r)).run prog wx=.ok (.string (Utf8.encode r)) wx:=λwx=>run_convert_int_string wx 21 9 .i32 r (by rw[underlying21];rfl) underlying9;generalize Utf8.encode r=a at *;go_enter func137,ntmps137;go_wp2_with (go_at_call 193;refine(Tryz.utf8_ValidRune r _).mono ?_;rintro e t⟨rfl,rfl⟩;rw[c.o])
  go_step3
  go_wp2_with fail;have p:n<s.size:=V
  have hnr:n<a.size:=V
  have T:=f.o n p;have U:128<=(a[n]'hnr).toNat:=by
   have:=g V;have e:a.size-1=n:=V
   simp only[e]at this;exact this
  have Q:(((s[n]'p).toNat:Int) !=((a[n]'hnr).toNat:Int))=true:=Θ
  have u:J<|∀i j,Lib.indexByte (s.extract i j).data.toList (a[n]'hnr) = -1:=λi j=>indexByte_none _ _ (λb A=>by intro D;have d:=mem_extract A;obtain⟨k,o,E⟩:=List.getElem_of_mem d;have l:=f.o k (by simpa using o);have y:s[k]'(by simpa using o)=b:=E;rw[y,D]at l;omega);have B:(((a[n]'hnr).toNat:Int)).toNat.toUInt8=a[n]'hnr:=Ω
  have K:Qb s (a[n]'hnr):=λi j wx=>by refine(Tryz.strings_IndexByte _ _ _).mono ?_;rintro e Z⟨rfl,rfl⟩;rw[B,u.o];exact⟨rfl,rfl⟩
  have S:IntKind.i64.wrap ((n:Int)+1)=(n:Int)+1:=wrap_small _ V V;have M:(n:Int)+1<=7:=V
  have N:(0:Int)<=(n:Int)+1:=V
  clear v x g C F;go_loopg [9,10,11,12] 0 (λL H G X Y wx=>H=.int .i64 n/\G=.int .i64 0/\wx=t);case atStart=>exact⟨rfl,rfl,rfl⟩
  case round =>
   obtain⟨rfl,rfl,rfl⟩:=hrel;go_wp2_with fail
   go_step3
   go_wp2_with fail
   go_quiet (fail)
   go_wp2_with fail
   go_quiet (first|(go_at_call 81;exact ψ (K _ _ _) (λ_ _ h=>⟨h.1,_,h.2⟩)))
   go_wp2;rw[Exit.noGoto_ret,lS,Bz,lS,Bz,Exit.noGoto_ret,lS];go_ret;exact⟨rfl,below_drewN (φ _ _) _⟩
theorem BA(s:ByteArray)(i:Nat)(h:i<s.size)(m:128<=(s[i]'h).toNat):∀j,j<(Utf8.decode s i).2->∃a:i+j<s.size,128<=(s[i+j]'a).toNat:=by
 have n:∀k(hk:i+k<s.size),(s.get! (i+k)).toNat / 64=2->128<=(s[i+k]'hk).toNat:=λk hk l=>by
  have g:s.get! (i+k)=s[i+k]'hk:=by simp[ByteArray.get!,getElem!_pos,hk];(first|done|rfl)
  rw[g]at l;omega
 have d:∃a:i+0<s.size,128<=(s[i+0]'a).toNat:=⟨h,m⟩;have o:¬(s[i]'h).toNat<128:=V
 intro j a;have b:∀k,(decide (i+k<s.size)&&(s.get! (i+k)).toNat / 64==2)=true->∃a:i+k<s.size,128<=(s[i+k]'a).toNat:=λk hk=>by simp only[γ,decide_eq_true_eq,beq_iff_eq]at hk;exact⟨hk.1,n k hk.1 hk.2⟩
 simp only[Utf8.decode,get_at s i h,o,if_false]at a;split at a
 .rename_i hx;simp only[γ]at hx;have c:=b 1 (by simpa using hx.2);split at a<;>(simp only at a;rcases j with _|_|j;exact d;exact c;omega)
 .split at a
  .rename_i hx;simp only[γ]at hx;have c:=b 1 (by simpa using hx.1.2);have e:=b 2 (by simpa using hx.2);split at a<;>(simp only at a;rcases j with _|_|_|j;exact d;exact c;exact e;omega)
  .split at a
   .rename_i hx;simp only[γ]at hx;have c:=b 1 (by simpa using hx.1.1.2);have e:=b 2 (by simpa using hx.1.2);have f:=b 3 (by simpa using hx.2);split at a<;>(simp only at a;rcases j with _|_|_|_|j;exact d;exact c;exact e;exact f;omega)
   .simp only at a;rcases j with _|j;exact d;omega
end
section
open Go.Proofs.Tryz Go.RowKit Go.Lib
theorem Ll(x:UInt8)(h:128<=x.toNat):(toL bM).contains x=false:=by
 have:∀b∈toL bM,b.toNat<128:=o8;cases hc:(toL bM).contains x
 .rfl
 .have:=this x (by simpa using hc);omega
theorem EP{s:ByteArray}{i d:Nat}(k:Lib.NoAny (toL s) (toL bM) i)(m:∀j,j<d->∃f:i+j<s.size,128<=(s[i+j]'f).toNat):Lib.NoAny (toL s) (toL bM) (i+d):=by
 intro j b f a;by_cases l:j<i
 .exact k j b l a
 .obtain⟨c,e⟩:=m (j-i) V;have g:i+(j-i)=j:=V
  simp only[g]at c e;have h:(toL s)[j]?=some (s[j]'c):=Lib.data_getElem? s j c;rw[h]at a;cases a
  exact Ll _ e
theorem uG(s:ByteArray)(w:World)(U:s.size<=8):Calls prog 80 #[.string s,.string bM] w λe w'=>e=.returned (.int .i64 (Lib.indexAny (toL s) (toL bM)))/\Below w.heap.size w w':=by
 have a2:bM.size=7:=rfl;have W:bM.toList.isEmpty=false:=by rw[toList_eq];(first|done|rfl)
 have L:decide ((8:Int)<(s.size:Int))=false:=decide_eq_false V;have E:J<|∀(r:Int)(c:World),128<=r->r<=2147483647->Calls prog 137 #[.string bM,.int .i32 r] c λe w'=>e=.returned (.int .i64 (-1))/\Below c.heap.size c w':=λr c H K=>uF r c H K;have Hs:J<|∀{i d:Nat},Lib.NoAny (toL s) (toL bM) i->(∀n,n<d->∃A:i+n<s.size,128<=(s[i+n]'A).toNat)->Lib.NoAny (toL s) (toL bM) (i+d):=λG N=>EP G N;generalize bM=b at *;go_enter func80,ntmps80;go_wp2_with (go_at_call 138;refine(Tryz.strings_shouldUseASCIISet _ _).mono ?_;rintro e w'⟨rfl,h⟩;rw[h,L]);go_loopg [9,10] s.size (λF _ _ c=>∃i:Nat,i+F=s.size/\c.heap[w.heap.size]?=some (.stringIter s i)/\Below w.heap.size w c/\Lib.NoAny (toL s) (toL b) i);case atStart=>exact⟨0,V,World.iter_heap _ _ _,uD _ _ _,Lib.NoAny.zero _ _⟩
 case round =>
  obtain⟨i,Z,f,v,B⟩:=hrel;have k:J<|Lib.NoAny (toL s) (toL b) i:=B;have l:J<|Below w.heap.size w wr:=v;have o:J<|wr.heap[w.heap.size]?=some (.stringIter s i):=f;clear B v;by_cases a:i<s.size
  .by_cases S:(s[i]'a).toNat<128
   .have C:=λj=>run_next_ascii_at (P:=prog) wr w.heap.size s i j f a S;have p:J<|(toL s)[i]?=some (s[i]'a):=Lib.data_getElem? s i a;clear f;generalize (s[i]'a)=x at *;have g:(toL b).contains x=decide (0<=Lib.indexByte b.data.toList x):=Lib.contains_iff_indexByte b.data.toList x;have u:((x.toNat:Int)).toNat.toUInt8=x:=Ω
    have m:J<|(wr.iterAt w.heap.size s (i+1)).heap[w.heap.size]?=some (.stringIter s (i+1))/\Below w.heap.size w (wr.iterAt w.heap.size s (i+1)):=⟨iterAt_heap _ _ _ _ _ o.o,below_iterAt l.o (χ _) _ _⟩;cases hin:(toL b).contains x
    .rw[hin]at g;have a1:¬((0:Int)<=Lib.indexByte b.data.toList x):=of_decide_eq_false g.symm;clear g;go_wp2_with (go_at_call 137;refine(Tryz.strings_IndexRune_ascii _ _ _ V V).mono ?_;rintro e w'⟨rfl,h⟩;rw[h,u]);go_roundg (s.size-(i+1));case measure=>omega
     case rel=>exact⟨i+1,V,m.o.1,m.o.2,k.o.succ p.o hin⟩
    .rw[hin]at g;have X:(0:Int)<=Lib.indexByte b.data.toList x:=of_decide_eq_true g.symm;clear g;go_wp2_with (go_at_call 137;refine(Tryz.strings_IndexRune_ascii _ _ _ V V).mono ?_;rintro e w'⟨rfl,h⟩;rw[h,u]);go_ret;exact⟨by rw[Lib.indexAny_hit k.o p.o hin];rfl,m.o.2⟩
   .have C:=λj=>run_next_any_at (P:=prog) wr w.heap.size s i j f a;have Y:=decode_high s i a V;have a0:=decode_le s i;have q:J<|_:=BA s i a V;clear f;have D:J<|i+(Utf8.decode s i).2<=s.size:=by obtain⟨A,_⟩:=q.o ((Utf8.decode s i).2-1) V;unfold J;omega
    generalize Utf8.decode s i=rd at *;obtain⟨r,d⟩:=rd;simp only at *;have M:J<|Below w.heap.size w (wr.iterAt w.heap.size s (i+d)):=below_iterAt l.o (χ _) _ _;have y:J<|(wr.iterAt w.heap.size s (i+d)).heap[w.heap.size]?=some (.stringIter s (i+d)):=iterAt_heap _ _ _ _ _ o.o;generalize wr.iterAt w.heap.size s (i+d)=T at *;go_wp2_with (go_at_call 137;refine(E.o _ _ V V).mono ?_;rintro e w'⟨rfl,t⟩);go_roundg (s.size-(i+d));case measure=>omega
    case rel =>
     have R:w.heap.size<T.heap.size:=(Array.getElem?_eq_some_iff.1 y.o).1;refine⟨i+d, ?_, ?_, ?_,Hs.o k.o q.o⟩
     .have:=D.o;omega
     .exact(t.block _ R).trans y.o
     .exact M.o.trans (t.mono V)
  .have Q:i=s.size:=V
   have C:=λj=>run_next_end_at (P:=prog) wr w.heap.size s i j f a;clear f;go_wp2;go_ret;exact⟨by rw[Lib.indexAny_none (by rw[toL_length,<- Q];exact k.o)];rfl,l.o⟩
theorem zk(s:ByteArray)(w:World)(f:s.size<=1048576):Calls prog 80 #[.string s,.string bM] w λe w'=>e=.returned (.int .i64 (Lib.indexAny (toL s) (toL bM)))/\Below w.heap.size w w':=by
 by_cases c:s.size<=8
 .exact uG s w c
 .have g:bM.size=7:=rfl;have a:(prog.info? 193).map (λi=>(i.zero,i.size))=some (some (.agg (Array.replicate 256 (.bool false))),256):=by kernel_rfl
  refine ψ (Tryz.strings_IndexAny_long ?_ s bM w V V V V ?_) ?_
  .exact(zero_of_info a).1
  .intro j b d;exact o8 b (List.mem_of_getElem? d)
  .rintro e w'⟨rfl,rfl⟩;exact⟨rfl,((φ _ w).alloc (χ _) _).alloc Ω _⟩
theorem oD(c:UInt8):Thk.bI c=(toL bM).contains c:=by have e:toL bM=[43,45,94,95,61,62,33]:=rfl;rw[e,Bool.eq_iff_iff];simp only[Thk.bI,List.contains_cons,List.contains_nil,Bool.or_eq_true,beq_iff_eq,<- UInt8.toNat_inj,Bool.or_false];simp;omega
theorem wR(l:Thk.Bs):(l.findIdx Thk.bI=l.length/\Lib.indexAny l (toL bM) = -1)\/(∃h:l.findIdx Thk.bI<l.length,Lib.indexAny l (toL bM)=(l.findIdx Thk.bI:Int)/\Thk.bI (l[l.findIdx Thk.bI]'h)=true):=by
 rcases Nat.lt_or_ge (l.findIdx Thk.bI) l.length with h|h
 .right;have d:Thk.bI (l[l.findIdx Thk.bI]'h)=true:=List.findIdx_getElem (w:=h);refine⟨h, ?_,d⟩;refine Lib.indexAny_hit (x:=l[l.findIdx Thk.bI]'h) ?_ (σ h) (by rw[<- oD];exact d);intro j b c a;have f:j<l.length:=V
  rw[σ f]at a;cases a
  rw[<- oD];exact List.not_of_lt_findIdx c
 .left;have e:l.findIdx Thk.bI=l.length:=Nat.le_antisymm List.findIdx_le_length h;refine⟨e,Lib.indexAny_none ?_⟩;intro j b c a;rw[σ c]at a;cases a
  rw[<- oD];exact List.not_of_lt_findIdx (e▸c)
def chV(c:Thk.Ch):Value:=.agg #[.string ⟨c.path.toArray⟩,.int .u8 (c.act.toNat:Int),.string (au c.act ⟨c.val.toArray⟩),.int .i64 c.n]
def zl:Value:=.agg #[.string ⟨#[]⟩,.int .u8 0,.string ⟨#[]⟩,.int .i64 0]
def Gy:Nat ⊕ Thk.Ch->Value
 | .inl m=>.tuple #[zl,.int .i64 m]
 | .inr c=>.tuple #[chV c,.int .i64 0]
theorem uH(s:ByteArray):(⟨(toL s).toArray⟩:ByteArray)=s:=by show(⟨s.data.toList.toArray⟩:ByteArray)=s;rw[Array.toArray_toList]
end
section
open Go.Proofs.Tryz Go.RowKit
variable{b:Nat}{a:UInt8}{w:World}
theorem bY.store{p:ByteArray}{v:ByteArray}{n:Int}(h:bY w b p a v n)(d:ByteArray)(c:UInt8)(e:ByteArray)(n':Int):bY ((((w.setCell (z b) (.string d)).setCell (O b 1) (.int .u8 (c.toNat:Int))).setCell (O b 2) (.string e)).setCell (O b 3) (.int .i64 n')) b d c e n' :=
 (((h.set0 d).set1 c).set2 e).SS n'
theorem bY.zo{p:ByteArray}{v:ByteArray}{n:Int}(h:bY w b p a v n):bY ((((w.setCell (z b) (.string ⟨#[]⟩)).setCell (O b 1) (.int .u8 0)).setCell (O b 2) (.string ⟨#[]⟩)).setCell (O b 3) (.int .i64 0)) b ⟨#[]⟩ 0 ⟨#[]⟩ 0 :=
 h.store ⟨#[]⟩ 0 ⟨#[]⟩ 0
theorem gZ{B:Nat}{a:World}(h:Below B a w)(c:B<=b)(x y d u:Value):Below B a ((((w.setCell (z b) x).setCell (O b 1) y).setCell (O b 2) d).setCell (O b 3) u) :=
 (((h.setCell (p:=(z b)) c x).setCell (p:=(O b 1)) c y).setCell (p:=(O b 2)) c d).setCell (p:=(O b 3)) c u
theorem uI(s:ByteArray)(k:Nat):toL (s.extract 0 k)=(toL s).take k:=by show(s.extract 0 k).data.toList=s.data.toList.take k;rw[ByteArray.data_extract,Array.toList_extract];simp
theorem uJ(s:ByteArray)(k:Nat):toL (s.extract k s.size)=(toL s).drop k:=by show(s.extract k s.size).data.toList=s.data.toList.drop k;rw[ByteArray.data_extract,Array.toList_extract];show(s.data.toList.drop k).take (s.size-k)=_;rw[List.take_of_length_le];simp
theorem wS(k:UInt8)(w:World):Calls prog 82 #[.int .u8 (k.toNat:Int)] w λe a=>e=.returned (.string ⟨(lF k).toArray⟩)/\a=w:=by refine(wK k w).mono ?_;rintro e a⟨t,rfl,b,rfl⟩;exact⟨by rw[<- b,uH],rfl⟩
theorem Iz(k a:UInt8):Thk.fits k a=(lF k).contains a:=by
 unfold Thk.fits lF;have b:∀n:Nat,((k.toNat:Int)=(n:Int))↔k.toNat=n:=λn=>V
 simp only[show((115:Int))=((115:Nat):Int)from rfl,show((102:Int))=((102:Nat):Int)from rfl,show((114:Int))=((114:Nat):Int)from rfl,show((99:Int))=((99:Nat):Int)from rfl,b]
 repeat' split
 all_goals
  rw[Bool.eq_iff_iff];simp only[List.contains_cons,List.contains_nil,Bool.or_eq_true,beq_iff_eq,<- UInt8.toNat_inj,Bool.or_false];simp<;>omega
theorem BD{p:Thk.Bs}{v:Thk.Bs}{m:Nat}(h:Thk.operand p a v=.inl m):m=5:=by
 unfold Thk.operand at h;split at h
 .split at h<;>simp_all
 .split at h
  .split at h<;>simp_all
  .split at h<;>simp_all
theorem lT{p:Thk.Bs}{v:Thk.Bs}{c:Thk.Ch}(h:Thk.operand p a v=.inr c):c=⟨p,a,v,c.n⟩:=by
 unfold Thk.operand at h;split at h
 .split at h
  .simp only[Sum.inr.injEq]at h;subst h;rfl
  .cases h
 .split at h
  .split at h
   .simp only[Sum.inr.injEq]at h;subst h;rfl
   .cases h
  .split at h
   .simp only[Sum.inr.injEq]at h;subst h;rfl
   .cases h
theorem IB{B:Nat}{a c:World}(h:Chg (λx=>x=b) a c)(d:B<=b)(f:B<=a.heap.size):Below B a c :=
 ⟨h.os,h.tape,h.output,h.size,λk e=>h.block k V V⟩
theorem jX(a:UInt8)(t:ByteArray):(au a t).size<=t.size:=by
 unfold au;split
 .exact χ _
 .exact Nat.zero_le _
theorem o9(s:ByteArray)(w:World)(hs:s.size<=1048576)(hG:Glob w):Calls prog 47 #[.string s] w λe w'=>e=.returned (Gy (Thk.read (toL s)))/\Below w.heap.size w w':=by
 have Hi:J<|_:=λb=>zk s b hs;have Hz:J<|bY (w.alloc (.cells #[.string ⟨#[]⟩,.int .u8 0,.string ⟨#[]⟩,.int .i64 0] 86)) w.heap.size ⟨#[]⟩ 0 ⟨#[]⟩ 0:=jW w ⟨#[]⟩ 0 ⟨#[]⟩ 0;have ad:J<|∀o,Below w.heap.size w (w.alloc o):=λo=>(φ _ w).alloc (χ _) o;have HG:J<|Glob w:=hG;clear hG;rcases wR (toL s) with⟨C,D⟩|⟨C,D,ha⟩
 .have r:J<|Thk.read (toL s)=.inl 4:=by unfold J Thk.read;rw[ώ C]
  have S:J<|Lib.indexAny (toL s) (toL bM) = -1:=D;clear D C;go_enter func47,ntmps47;go_wp2_with fail;refine ψ (Hi.o _) ?_;rintro e q⟨rfl,ar⟩;rw[S.o];have d:=Hz.o.below ar;have x:J<|Below w.heap.size w q:=(ad.o _).trans (ar.mono Ω);clear ar;have F:=d.c0;have G:=d.c1;have H:=d.c2;have K:=d.c3;have L:=d.tag.frozen;have A1:J<|bY q w.heap.size ⟨#[]⟩ 0 ⟨#[]⟩ 0:=d;clear d;go_wp2;have hF:=A1.o.zo;have f:=gZ x.o (χ w.heap.size) (.string ⟨#[]⟩) (.int .u8 0) (.string ⟨#[]⟩) (.int .i64 0);generalize ((((q.setCell (z w.heap.size) (.string ⟨#[]⟩)).setCell (O w.heap.size 1) (.int .u8 0)).setCell (O w.heap.size 2) (.string ⟨#[]⟩)).setCell (O w.heap.size 3) (.int .i64 0))=P at *;exact ϐ (v:=.tuple #[zl,.int .i64 4]) (by simp[results,Tryz.results47,go_sem,hF.c0,hF.c1,hF.c2,hF.c3,zl]) rfl ⟨by rw[r.o];rfl,f⟩
 .have r:J<|Thk.read (toL s)=Thk.eH (toL s) ((toL s).findIdx Thk.bI):=by unfold J Thk.read;rw[ύ V]
  have S:J<|Lib.indexAny (toL s) (toL bM)=(((toL s).findIdx Thk.bI:Nat):Int):=D;clear D ha;generalize (toL s).findIdx Thk.bI=k at *;rw[toL_length]at C;have ak:(0:Int)<=(k:Int):=V
  have al:(k:Int)<=(s.size:Int):=V
  have hkn:¬((k:Int)<0):=V
  obtain⟨p,hp⟩:∃p,p=s.extract 0 k:=⟨_,rfl⟩;have B:J<|toL p=(toL s).take k:=ω<|by rw[hp,uI]
  have a8:p.size<=1048576:=by have:p.size=(toL p).length:=(toL_length p).symm;rw[this,B.o,List.length_take,toL_length];omega
  go_enter func47,ntmps47;go_wp2_with fail;refine ψ (Hi.o _) ?_;rintro e q⟨rfl,ar⟩;rw[S.o];have x:J<|Below w.heap.size w q:=(ad.o _).trans (ar.mono Ω);have d:J<|bY q w.heap.size ⟨#[]⟩ 0 ⟨#[]⟩ 0:=Hz.o.below ar;clear ar;go_wp2_with fail;rw[<- hp];clear hp;obtain⟨m,hm⟩:=(HG.o.mono x.o).len;have wI:J<|_:=oU p m q a8 hm;clear hm;refine ψ wI.o ?_;rintro e y⟨rfl,Z⟩;have U:J<|Below w.heap.size w y:=x.o.trans (Z.mono x.o.size);have g:J<|bY y w.heap.size ⟨#[]⟩ 0 ⟨#[]⟩ 0:=d.o.below Z;clear Z wI;cases hpa:Thk.path (toL p)
  .have j:J<|Thk.eH (toL s) k=.inl 4:=by unfold J Thk.eH;rw[ώ (by rw[<- B.o];exact hpa)]
   have F:=g.o.c0;have G:=g.o.c1;have H:=g.o.c2;have K:=g.o.c3;have L:=g.o.tag.frozen;go_wp2;have hF:=g.o.zo;have f:=gZ U.o (χ w.heap.size) (.string ⟨#[]⟩) (.int .u8 0) (.string ⟨#[]⟩) (.int .i64 0);generalize ((((y.setCell (z w.heap.size) (.string ⟨#[]⟩)).setCell (O w.heap.size 1) (.int .u8 0)).setCell (O w.heap.size 2) (.string ⟨#[]⟩)).setCell (O w.heap.size 3) (.int .i64 0))=P at *;exact ϐ (v:=.tuple #[zl,.int .i64 4]) (by simp[results,Tryz.results47,go_sem,hF.c0,hF.c1,hF.c2,hF.c3,zl]) rfl ⟨by rw[r.o,j.o];rfl,f⟩
  .have af:QJ true p=p:=rfl;rw[af];have ab:J<|Thk.path (toL p)=true:=hpa;clear af hpa;have hkl:k<s.size:=C;have ai:((s[k]'hkl).toNat:Int).toNat.toUInt8=s[k]'hkl:=Ω
   obtain⟨E,a7⟩:∃E,E=Lib.indexByte (lF (Thk.kindOf (toL p))) (s[k]'hkl):=⟨_,rfl⟩;have a9:J<|∀b,Calls prog 83 #[.string p] b λe w'=>e=.returned (.int .u8 ((Thk.kindOf (toL p)).toNat:Int))/\w'=b:=λb=>A8 p b a8 ab.o;have IC:J<|∀b,Calls prog 82 #[.int .u8 ((Thk.kindOf (toL p)).toNat:Int)] b λe w'=>e=.returned (.string ⟨(lF (Thk.kindOf (toL p))).toArray⟩)/\w'=b:=λb=>wS _ b;have aa:J<|∀b,Calls prog 81 #[.string ⟨(lF (Thk.kindOf (toL p))).toArray⟩,.int .u8 ((s[k]'hkl).toNat:Int)] b λe w'=>e=.returned (.int .i64 E)/\w'=b:=λb=>by refine(Tryz.strings_IndexByte _ _ _).mono ?_;rintro e w'⟨rfl,rfl⟩;rw[ai,a7];exact⟨rfl,rfl⟩
   have T:J<|Thk.fits (Thk.kindOf (toL p)) (s[k]'hkl)=decide (0<=E):=ω<|by rw[Iz,a7];exact Lib.contains_iff_indexByte _ _
   clear a7;go_wp2_with fail
   go_quiet (first|(go_at_call 83;exact ψ (a9.o _) (λ_ _ i=>⟨i.1,_,i.2⟩))|(go_at_call 82;exact ψ (IC.o _) (λ_ _ i=>⟨i.1,_,i.2⟩))|(go_at_call 81;exact ψ (aa.o _) (λ_ _ i=>⟨i.1,_,i.2⟩)))
   have b3:J<|Below w.heap.size w (y.drewN nq):=below_drewN U.o nq;have h:J<|bY (y.drewN nq) w.heap.size ⟨#[]⟩ 0 ⟨#[]⟩ 0:=g.o.below (below_drewN (φ _ _) nq);have a6:J<|(toL s).getD k 0=s[k]'hkl:=ω<|by rw[ξ,show(toL s)[k]?=some (s[k]'hkl)from Lib.data_getElem? s k hkl];(first|done|rfl)
   have ac:J<|¬Thk.path ((toL s).take k)=false:=ω<|by rw[<- B.o,ab.o];simp
   generalize y.drewN nq=A at *;clear d g x U a9 IC aa;by_cases ap:E<0
   .have j:J<|Thk.eH (toL s) k=.inl 6:=by unfold J Thk.eH;rw[ύ ac.o,a6.o,<- B.o,T.o,ώ Θ]
    have F:=h.o.c0;have G:=h.o.c1;have H:=h.o.c2;have K:=h.o.c3;have L:=h.o.tag.frozen;go_wp2;have hF:=h.o.zo;have f:=gZ b3.o (χ w.heap.size) (.string ⟨#[]⟩) (.int .u8 0) (.string ⟨#[]⟩) (.int .i64 0);generalize ((((A.setCell (z w.heap.size) (.string ⟨#[]⟩)).setCell (O w.heap.size 1) (.int .u8 0)).setCell (O w.heap.size 2) (.string ⟨#[]⟩)).setCell (O w.heap.size 3) (.int .i64 0))=P at *;exact ϐ (v:=.tuple #[zl,.int .i64 6]) (by simp[results,Tryz.results47,go_sem,hF.c0,hF.c1,hF.c2,hF.c3,zl]) rfl ⟨by rw[r.o,j.o];rfl,f⟩
   .have j:J<|Thk.eH (toL s) k=Thk.operand (toL p) (s[k]'hkl) ((toL s).drop (k+1)):=by unfold J Thk.eH;rw[ύ ac.o,a6.o,<- B.o,T.o,ύ Θ]
    have aq:IntKind.i64.wrap ((k:Int)+1)=(k:Int)+1:=wrap_small _ V V;have an:(k:Int)+1<=(s.size:Int):=V
    have ao:(0:Int)<=(k:Int)+1:=V
    go_wp2_with fail;obtain⟨t,ht⟩:∃t,t=s.extract (k+1) s.size:=⟨_,rfl⟩;have Ht:J<|toL t=(toL s).drop (k+1):=ω<|by rw[ht,uJ]
    have ag:t.size<=1048576:=by have:t.size=(toL t).length:=(toL_length t).symm;rw[this,Ht.o,List.length_drop,toL_length];omega
    rw[<- ht];clear ht;rw[<- Ht.o]at j;clear a6 T ai;generalize (s[k]'hkl)=a at *;have Y:J<|w.heap.size<A.heap.size:=h.o.tag.lt;have X:J<|Below w.heap.size w (A.alloc (.cells #[.string p,.int .u8 (a.toNat:Int),.string ⟨#[]⟩,.int .i64 0] 86)):=b3.o.alloc (Nat.le_of_lt Y.o) _;have az:J<|bY (A.alloc (.cells #[.string p,.int .u8 (a.toNat:Int),.string ⟨#[]⟩,.int .i64 0] 86)) w.heap.size ⟨#[]⟩ 0 ⟨#[]⟩ 0:=h.o.below ((φ _ _).alloc (χ _) _);refine ψ (rW A.heap.size p a t _ ag ((HG.o.mono X.o)) (jW A p a ⟨#[]⟩ 0)) ?_;rintro e Q⟨rfl,hc,qm⟩;have W:J<|Below w.heap.size w Q:=X.o.trans (IB qm (Nat.le_of_lt Y.o) X.o.size);have l:J<|bY Q w.heap.size ⟨#[]⟩ 0 ⟨#[]⟩ 0:=az.o.chg qm (Nat.ne_of_lt Y.o);clear qm;have F:=l.o.c0;have G:=l.o.c1;have H:=l.o.c2;have K:=l.o.c3;have L:=l.o.tag.frozen;cases hop:Thk.operand (toL p) a (toL t) with
    | inl m =>have QD:=BD hop;subst QD;have R:J<|Thk.operand (toL p) a (toL t)=.inl 5:=hop;clear hop hc;have N:(Sum.inl 5:Nat ⊕ Thk.Ch).isRight=false:=rfl;rw[N];go_wp2;have hF:=l.o.zo;have f:=gZ W.o (χ w.heap.size) (.string ⟨#[]⟩) (.int .u8 0) (.string ⟨#[]⟩) (.int .i64 0);generalize ((((Q.setCell (z w.heap.size) (.string ⟨#[]⟩)).setCell (O w.heap.size 1) (.int .u8 0)).setCell (O w.heap.size 2) (.string ⟨#[]⟩)).setCell (O w.heap.size 3) (.int .i64 0))=P at *;exact ϐ (v:=.tuple #[zl,.int .i64 5]) (by simp[results,Tryz.results47,go_sem,hF.c0,hF.c1,hF.c2,hF.c3,zl]) rfl ⟨by rw[r.o,j.o,R.o];rfl,f⟩
    | inr c =>
     have ae:=lT hop;have R:J<|Thk.operand (toL p) a (toL t)=.inr c:=hop;have M:=hc c hop;have N:(Sum.inr c:Nat ⊕ Thk.Ch).isRight=true:=rfl;rw[N];clear hop hc N;have Hv:J<|chV c=.agg #[.string p,.int .u8 (a.toNat:Int),.string (au a t),.int .i64 c.n]:=by unfold J chV;rw[ae];simp only[uH]
     clear ae;have aj:(au a t).size<=1048576:=ς (jX a t) ag;generalize au a t=v at *;generalize c.n=n at *;have y0:=M.c0;have y1:=M.c1;have y2:=M.c2;have y3:=M.c3;clear M;go_wp2_with fail;refine ψ (EO p a v n Q a8 aj) ?_;rintro e w5⟨rfl,a0⟩;have b5:J<|Below w.heap.size w w5:=W.o.trans (a0.mono W.o.size);have u:J<|bY w5 w.heap.size ⟨#[]⟩ 0 ⟨#[]⟩ 0:=l.o.below a0;clear a0 F G H K L y0 y1 y2 y3;have F:=u.o.c0;have G:=u.o.c1;have H:=u.o.c2;have K:=u.o.c3;have L:=u.o.tag.frozen;go_wp2;have hF:=u.o.store p a v n;have f:=gZ b5.o (χ w.heap.size) (.string p) (.int .u8 (a.toNat:Int)) (.string v) (.int .i64 n);generalize ((((w5.setCell (z w.heap.size) (.string p)).setCell (O w.heap.size 1) (.int .u8 (a.toNat:Int))).setCell (O w.heap.size 2) (.string v)).setCell (O w.heap.size 3) (.int .i64 n))=P at *;exact ϐ (v:=.tuple #[.agg #[.string p,.int .u8 (a.toNat:Int),.string v,.int .i64 n],.int .i64 0]) (by simp[results,Tryz.results47,go_sem,hF.c0,hF.c1,hF.c2,hF.c3]) rfl ⟨by rw[r.o,j.o,R.o];show _=Ending.returned (.tuple #[chV c,.int .i64 0]);rw[Hv.o],f⟩
end
section
open Go.Proofs.Tryz Go.RowKit Go.Maps Go.ChangeMaps Go.MapKept
theorem aP.count{P:Program}{k:TypeId}{w:World}{b N:Nat}{m:Value->Option Value}(r:aP P k w b N m)(K:Keyed P k):∃l:List Value,l.Nodup/\l.length=N/\∀key,key∈l↔m key≠none:=by
 obtain⟨D,s,t,h⟩:=r;obtain⟨g,q,A,F,j,rfl⟩:=s;refine⟨g.toList.map (·.key), ?_, ?_,λkey=>⟨λi=>?_,λi=>?_⟩⟩
 .rw[List.nodup_iff_pairwise_ne,List.pairwise_map];exact((stamped_iff g q).1 F.stamped).2.2
 .rw[<- t];simp only[Maps.size,length_sorted,List.length_map,Array.length_toList]
 .obtain⟨x,d,rfl⟩:=ι.1 i;obtain⟨y,e⟩:=F.reads x d;have c:=WideElems.rd_key e;have a:=(h.1 _ _ c).1;have:Maps.has (DataW.map ((g.toList.map (WideElems.rg P k D6)).foldr DataW.insert [])) y.1=true :=
   List.any_eq_true.2 ⟨WideElems.rg P k D6 x,mem_sorted.2 (ι.2 ⟨x,d,rfl⟩),by rw[WideElems.rg_of e];exact WideAt.sameKey_self (K.key c)⟩
  rw[this]at a;intro f;rw[f]at a;cases a
 .have j:(m key).isSome=true:=by cases hm:m key with
   | none=>exact absurd hm i
   | some v=>rfl
  obtain⟨B,n⟩:=h.2 key j;have a:=(h.1 _ _ n).1;rw[j]at a;obtain⟨p,u,o⟩:=List.any_eq_true.1 a;obtain⟨x,d,rfl⟩:=ι.1 (mem_sorted.1 u);obtain⟨y,e⟩:=F.reads x d;rw[WideElems.rg_of e]at o;have f:=WideAt.sameKey_eq o;have c:=WideElems.rd_key e;rw[f]at c;exact ι.2 ⟨x,d,K.inj c n⟩
open Go.WideElems (Fit rd rg pl rd_key rd_val rg_of other_key rd_mk)
variable{P:Program}{k:TypeId}{w:World}{b r N cnt:Nat}{m:Value->Option Value}{left:Value->Prop}
