import Derived.Test.YtfmmllpjgkgeaaaGreatDoorPartS20
import Derived.Test.YtfmmllpjgkgeaaaGreatDoorPartS21
import Derived.Test.YtfmmllpjgkgeaaaGreatDoorPartS26
set_option linter.unusedVariables false
set_option linter.unusedSimpArgs false
set_option maxHeartbeats 16000000
set_option maxRecDepth 100000
namespace Go.Proofs.YtfmmllpjgkgeaaaGreatDoor
open Go.Proofs.Tryz Go.RowKit Go.Maps Go.WideMaps Go.Shelf
variable{S:Nat->Prop}{w w':World}
theorem Ju(w:World)(s o:StD)(h:s.At w)(l:o.At w):Calls prog 151 #[.agg #[.map s.io,.map s.co,.map s.lo],.agg #[.map o.io,.map o.co,.map o.lo]] w λe w'=>∃b a c,e=.returned (.agg #[.map (some b),.map (some a),.map (some c)])/\ay w' b a c (newS s o) (Jg s o)/\(w.heap.size<=b/\w.heap.size<=a/\w.heap.size<=c)/\Below w.heap.size w w' :=
 MB (λw f m d L h=>ψ (GI w f m d L h) (by rintro e w'⟨v,n,g,i,j,k⟩;exact⟨v,n,g,i,j.nodup,k⟩)) w s o h l
structure StoB(S:Nat->Prop)(C:Nat->Option Thk.Ch):Prop where
 ns:∀ns:List Nat,ns.Nodup->(∀d∈ns,1<=nth d/\S d)->ns.length<=505
 ok:∀k,C k≠none->okD k/\S k
 ch:∀k c,C k=some c->(c.act=43\/c.act=94\/c.act=61\/c.act=62)/\(-9223372036854775808<=c.n/\c.n<=9223372036854775807)/\c.path.length<=1048576/\(au c.act ⟨c.val.toArray⟩).size<=1048576/\(txtC c).length<=1000
 rd:∀k c,C k=some c->Thk.read (txtC c)=.inr c/\eG c.act=true
structure EncOf(S:Nat->Prop)(C:Nat->Option Thk.Ch)(rs:List (Nat×Nat))(its:List (Nat×Thk.Bs)):Prop where
 r505:rs.length<=505
 ro:∀x∈rs,okR x
 Xl:its.length<=505
 io:∀x∈its,(who x.1<=5/\1<=nth x.1/\nth x.1<=501)/\x.2.length<16384/\∃c,Thk.read x.2=.inr c/\eG c.act=true
 it:itsC its its.length=itOf C
 dots:∀d,1<=nth d->((itsC its its.length d≠none\/d∈flatR rs)↔S d)
 fl:∀d,d∈flatR rs↔1<=nth d/\S d
 srt:(flatR rs).Pairwise (· < ·)
 gap:∀j(h:j+1<rs.length),rs[j].1+rs[j].2≠rs[j+1].1
 il:∃ns:List Nat,ns.Nodup/\(∀d∈ns,C d≠none)/\its.length=ns.length
 tx:∀x∈its,∃c,C x.1=some c/\x.2=txtC c
 nd:(its.map Prod.fst).Nodup
theorem Nq{C:Nat->Option Thk.Ch}{xs:List dV}(j:gY (itOf C) xs)(i:∀d c,C d=some c->Thk.read (txtC c)=.inr c):itsC (mF C xs) (mF C xs).length=itOf C:=by
 funext d;unfold itsC;rw[List.take_length];obtain⟨⟨_,g⟩,_⟩:=j;cases hf:(mF C xs).reverse.find? (λx=>x.1==d) with
 | none =>
  rw[List.find?_eq_none]at hf;have:C d=none:=Classical.byContradiction λb=>by have a:=(g d).2 (itOf_none.2 b);obtain⟨x,e,k⟩:=ι.1 a;refine hf (x.n,_) (List.mem_reverse.2 (ι.2 ⟨x,e,rfl⟩)) ?_;simpa using k
  unfold itOf;rw[this];(first|done|rfl)
 | some y =>
  have a:=List.find?_some hf;have h:=List.mem_reverse.1 (List.mem_of_find?_eq_some hf);obtain⟨x,e,rfl⟩:=ι.1 h;have f:x.n=d:=by simpa using a
  have b:C d≠none:=itOf_none.1 ((g d).1 (ι.2 ⟨x,e,f⟩));cases hcd:C d with
  | none=>exact absurd hcd b
  | some c =>unfold itOf;simp only[Option.bind_some,f,hcd];rw[i d c hcd];rfl
theorem Nr{C:Nat->Option Thk.Ch}(h:StoB S C){c:Nat->Nat}{L:Nat->Bool}{ns:List Nat}{rs:List (Nat×Nat)}{xs:List dV}(t:∀d,1<=nth d->(S d↔iP c L d))(o:BN ns)(s:∀d,d∈ns↔1<=nth d/\iP c L d)(i:Runs ns ns.length rs)(e:gY (itOf C) xs)(j:xs.length<=505):EncOf S C rs (mF C xs):=by
 have r:=o.nodup;have p:=Nq e (λd c f=>(h.rd d c f).1);have k:flatR rs=ns:=by have:=i.flat;rw[List.take_length]at this;exact this
 have l:∀d,d∈ns↔1<=nth d/\S d:=λd=>by rw[s];exact and_congr_right λb=>(t d b).symm
 have u:=h.ns ns r (λd b=>(l d).1 b);have w:(mF C xs).length=xs.length:=by unfold mF;simp
 refine⟨ς i.len u,λF v=>?_,V,λG j=>?_,p,λd b=>?_,λd=>by rw[k];exact l d,by rw[k];exact o,i.gap,⟨xs.map dV.n,e.1.1,λd b=>itOf_none.1 ((e.1.2 d).1 b),by rw[w,List.length_map]⟩,λG j=>?_, ?_⟩
 .obtain⟨⟨x,A,B⟩,D,E⟩:=i.ok F v;exact⟨⟨x,A,B⟩,D,V,E⟩
 .obtain⟨y,n,rfl⟩:=ι.1 j;have f:C y.n≠none:=itOf_none.1 ((e.1.2 y.n).1 (ι.2 ⟨y,n,rfl⟩));have m:=(h.ok _ f).1;cases a:C y.n with
  | none=>exact absurd a f
  | some c =>simp only[a];have:=(h.ch _ c a).2.2.2.2;exact⟨⟨m.1,m.2.1,m.2.2⟩,V,c,h.rd _ c a⟩
 .rw[p,k,itOf_none,l];constructor
  .rintro(g|g)
   .exact(h.ok d g).2
   .exact g.2
  .intro g;exact υ ⟨b,g⟩
 .obtain⟨y,n,rfl⟩:=ι.1 j;have f:C y.n≠none:=itOf_none.1 ((e.1.2 y.n).1 (ι.2 ⟨y,n,rfl⟩));obtain⟨c,a⟩:=Option.ne_none_iff_exists'.1 f;exact⟨c,a,by simp only[a]⟩
 .have q:(mF C xs).map Prod.fst=xs.map dV.n:=by unfold mF;rw[List.map_map];(first|done|rfl)
  rw[q];exact e.1.1
theorem StoB.items{C:Nat->Option Thk.Ch}(h:StoB S C){v:Value}{N:Nat}(f:aW prog 134 w v N (im (itOf C))):N<=505:=by obtain⟨g,a,b,c⟩:=BQ f;rw[<- b];exact h.ns g a (λd e=>by have:=h.ok d (itOf_none.1 ((c d).1 e));exact⟨this.1.2.1,this.2⟩)
structure GU(w:World)(io co lo:Option Nat)(S:Nat->Prop)(C:Nat->Option Thk.Ch):Prop where
 r:eU w (.map io) (.map co) (.map lo) S (itOf C)
 b:StoB S C
theorem GU.below{io co lo:Option Nat}{C:Nat->Option Thk.Ch}(h:GU w io co lo S C)(a:Below w.heap.size w w'):GU w' io co lo S C:=⟨h.r.below a,h.b⟩
theorem rM(w:World)(m:Glob w)(io co lo:Option Nat)(S:Nat->Prop)(C:Nat->Option Thk.Ch)(h:GU w io co lo S C):Calls prog 123 #[.agg #[.map io,.map co,.map lo]] w λe w'=>∃s rs a,e=.returned (.string s)/\toL s=encS rs a/\EncOf S C rs a/\s.size<=700000/\Below w.heap.size w w':=by
 obtain⟨g,L,t,_,o⟩:=h.r.ctx;obtain⟨N,d⟩:=h.r.its;have E:=h.b.items d;have G:=m.size;have y:J<|∀f,Calls prog 165 #[.slice none 0 0,.agg #[.map io,.map co,.map lo]] (w.alloc f) λe w'=>∃c n k s rs a,e=.returned (.slice c n k)/\(convert 93 9 (.slice c n k)).run prog w'=.ok (.string s) w'/\(toL s=encS rs a/\EncOf S C rs a/\s.size<=700000/\Below w.heap.size w w'):=λf=>by have b:Below w.heap.size w (w.alloc f):=(φ _ w).alloc (χ _) _;refine ψ (vK (w.alloc f) (m.mono b) w.heap.size G (.slice none 0 0) [] (aH.nil _ _) b.size Ω io co lo g L C N (t.below b) (d.below b) (λk p=>(h.b.ok k p).1) E (λx i j=>h.b.ns x i (λq F=>by have:=(j q).1 F;exact⟨this.1,(o q this.1).2 this.2⟩)) h.b.ch) ?_;rintro e w'⟨P,x,rs,xs,rfl,i,j,B,r,l,D⟩;obtain⟨c,n,k,rfl⟩:=l.shape;have M:=sJ d r;have v:=Nr h.b o i j B r V;rw[List.nil_append]at l;refine⟨c,n,k,_,rs,mF C xs,rfl,vM l (by unfold encS;rw[List.append_assoc,List.append_assoc];exact Qc _ _),by rw[mJ],v, ?_,b.trans (D.below b.size)⟩;rw[<- toL_length,mJ];have:=vN (C:=C) (rs:=rs) (xs:=xs) [] Ω v.r505 V (λk g p=>(h.b.ch k g p).2.2.2.2);rw[List.nil_append]at this;omega
 clear m t d h o;go_enter func123,ntmps123;go_wp2_with fail;refine ψ (y.o _) ?_;rintro e H⟨c,n,k,s,rs,a,rfl,K,u⟩;have A:J<|toL s=encS rs a/\EncOf S C rs a/\s.size<=700000/\Below w.heap.size w H:=u;clear u;go_wp2_with fail;go_ret;exact⟨s,rs,a,rfl,A.o⟩
structure RD where
 rb:Nat
 a:Nat
 io:Option Nat
 co:Option Nat
 lo:Option Nat
 kb:Nat
 db:Nat
 room:Nat
 pv:Value
 dr:Nat
 ab:Nat
 nb:List Nat
 A:Nat->Nat
 ps:List PcD
 K:Nat->Nat
 C:Nat->Option Thk.Ch
 n:Nat
 cut:Bool
 k:Int
def fst(K:Nat->Nat)(d:Nat):Prop:=nth d<=K (who d)
def RD.known(r:RD):StD:=⟨r.io,r.co,r.lo,fst r.K,itOf r.C⟩
structure bH(w:World)(r:RD):Prop where
 blk:ah w r.rb #[.int .i64 r.a,.map r.io,.map r.co,.map r.lo,.pointer (some (z r.kb)),.pointer (some (z r.db)),.bool false] 125
 st:GU w r.io r.co r.lo (fst r.K) r.C
 kept:aQ w r.kb r.room r.pv r.dr r.ab r.nb r.A r.ps
 Ub:∃rs its,fZ w r.db r.n (encS rs its) r.cut r.k/\EncOf (fst r.K) r.C rs its
 apart:¬(r.io=some r.ab\/r.co=some r.ab\/r.lo=some r.ab)
 rY:∀x,r.K x<=500
 a5:r.a<=5
 n:r.n<=sizeK r.K
def RD.own(r:RD)(k:Nat):Prop:=k=r.rb\/(r.io=some k\/r.co=some k\/r.lo=some k)\/zJ r.kb r.pv r.ab r.ps k\/k=r.db
theorem bH.chg{M:Nat->Prop}{r:RD}(h:bH w r)(a:Chg M w w')(b:∀k,r.own k->¬M k):bH w' r:=by obtain⟨j,i,d,e⟩:=h.Ub;exact⟨h.blk.chg a (b _ (τ rfl)),⟨h.st.r.chg a (λc f=>b c (υ (τ (by rcases f with h|h|h<;>simp only[Value.map.injEq]at h<;>simp[h])))),h.st.b⟩,h.kept.chg a (λk g=>b k (υ (υ (τ g)))),⟨j,i,d.chg a (b _ (υ (υ (υ rfl)))),e⟩,h.apart,h.rY,h.a5,h.n⟩
theorem bH.below{r:RD}(h:bH w r)(a:Below w.heap.size w w'):bH w' r:=h.chg (M:=λ_=>False) (Chg.of_below a) (λ_ _ h=>h)
theorem fZ.blk{a n:Nat}{t:Thk.Bs}{c:Bool}{k:Int}(h:fZ w a n t c k):∃d,ah w a d 229:=by obtain⟨f,e,b,_⟩:=h;exact⟨_,b⟩
theorem bH.lt{r:RD}(h:bH w r){k:Nat}(a:r.own k):k<w.heap.size:=by
 rcases a with rfl|a|a|rfl
 .exact h.blk.lt
 .exact h.st.r.lt k (by rcases a with h|h|h<;>simp[h])
 .exact h.kept.lt a
 .obtain⟨f,e,b,_⟩:=h.Ub;obtain⟨d,c⟩:=b.blk;exact c.lt
theorem bH.at{r:RD}(h:bH w r):r.known.At w:=⟨h.st.r,λn x a=>gK a⟩
theorem bH.rep{r:RD}(h:bH w r):mD w r.rb r.a r.io r.co r.lo r.K r.C:=⟨⟨_,_,_,h.blk⟩,h.st.r,λk c a=>(h.st.b.ch k c a).2.2.1,h.rY,h.a5⟩
theorem oJ{P:Program}(w:World){l:Array Oper}{p:List Oper}{o:Oper}{a:Act}{Q:Exit->Act->World->Prop}(H:o.guard=none)(s x:Operand)(t:TypeId)(T:o.op=Op.call { callee:=Callee.builtin Builtin.append,args:=#[s,x],argTypes:=#[t,t] })(e:TypeId)(i:TypeInfo)(h:Value)(size bytes:Nat)(v:P.underlying t=some (.slice e))(y:P.info? e=some i)(A:i.zero=some h)(B:i.size=size)(C:i.bytes=bytes)(D:h.cells.size=size)(E:0<size)(g n:Nat)(c:List Value)(W:a.eval s=.slice (some (z g)) n n)(M:c.length=n*size)(S:∀j u,c[j]?=some u->w.cell? (((z g):Addr).add j)=some u)(f:Addr)(m k:Nat)(b:List Value)(X:a.eval x=.slice (some f) m k)(N:b.length=m*size)(G:∀j u,b[j]?=some u->w.cell? (f.add j)=some u)(Z:0<m)(q:n+m<=maxLen)(r:(n+m)*bytes<=140737488355328)(L:∀d w',w'.ownsRow w.heap.size e size d (n+m) (c++b)->w.grownBy w' none->wpList P l Q p (a.put o.dst d) w'):wpList P l Q (o::p) a w:=by refine wpList_plain H λY F=>?_;obtain⟨d,w',U,R,K⟩:=run_append_arg_grows (P:=P) w t o.type e i h size bytes v y A B C D E (z g) n n c M S f m k b N G V q r;unfold Oper.wp;simp[execOp,T,resolve,invoke,builtin,W,X,U,Result.andThen];exact F _ _ (L d w' R K)
def oK(aC:List StD)(K:Nat->Nat)(C:Nat->Option Thk.Ch):Prop :=
 (∀It:Nat->Option Value,(∀n,It n≠none->okD n)->(∀n v,It n=some v->(∃s∈aC,s.It n=some v)/\¬aN aC n)->(∀n,(∃s∈aC,s.It n≠none)->¬aN aC n->It n≠none)->It=itOf C) /\
 ∀d,1<=nth d->((∃s∈aC,s.S d)↔fst K d)
def dB(r:RD)(K:Nat->Nat)(C:Nat->Option Thk.Ch)(d:Nat):Prop:=fst K d/\¬(fst r.K d/\(C d=none↔r.C d=none))
open Classical in
noncomputable def newC(r:RD)(K:Nat->Nat)(C:Nat->Option Thk.Ch)(d:Nat):Option Thk.Ch:=if dB r K C d then C d else none
theorem dK{C:Nat->Option Thk.Ch}{d:Nat}:itOf C d=none↔C d=none:=by unfold itOf;cases C d<;>simp
theorem Uc(r:RD)(K:Nat->Nat)(C:Nat->Option Thk.Ch)(s:StD)(c:s.S=fst K)(b:s.It=itOf C):newS s r.known=dB r K C/\Jg s r.known=itOf (newC r K C):=by
 have a:newS s r.known=dB r K C:=by funext d;unfold newS dB;rw[c,b];show(fst K d/\¬(fst r.K d/\(itOf C d=none↔itOf r.C d=none)))=_;rw[dK,dK]
 refine⟨a, ?_⟩;funext d;unfold Jg newC;rw[a,b];by_cases h:dB r K C d
 .rw[ώ h];unfold itOf;dsimp only;rw[ώ h]
 .rw[ύ h];unfold itOf;dsimp only;rw[ύ h];(first|done|rfl)
