import Derived.Test.YtfmmllpjgkgeaabGreatDoorZ21
import Derived.Test.YtfmmllpjgkgeaabGreatDoorZ22
import Derived.Test.YtfmmllpjgkgeaabGreatDoorZ27
set_option linter.all false
set_option maxHeartbeats 0
set_option maxRecDepth 100000
namespace Go.Proofs.YtfmmllpjgkgeaabGreatDoor
open Go.Proofs.Tryz Go.RowKit Go.Maps Go.WideMaps Go.Shelf
variable{S:Nat->Prop}{w w':World}
def Un(w:World)(s o:jF)(h:s.At w)(l:o.At w):Calls prog 143 #[.agg #[.map s.io,.map s.co,.map s.lo],.agg #[.map o.io,.map o.co,.map o.lo]] w λe w'=>∃b a c,e=.returned (.agg #[.map (some b),.map (some a),.map (some c)])/\aP w' b a c (newS s o) (Ub s o)/\(w.heap.size<=b/\w.heap.size<=a/\w.heap.size<=c)/\Below w.heap.size w w' :=
 Xe (λw f m d L h=>ψ (QY w f m d L h) (by rintro e w'⟨v,n,g,i,j,k⟩;exact⟨v,n,g,i,j.nodup,k⟩)) w s o h l
structure jT(S:Nat->Prop)(C:Nat->Option Thk.Ch):Prop where
 ns:∀ns:List Nat,ns.Nodup->(∀d∈ns,1<=nth d/\S d)->ns.length<=505
 ok:∀k,C k≠none->okD k/\S k
 ch:∀k c,C k=some c->(c.act=43\/c.act=94\/c.act=61\/c.act=62)/\(-9223372036854775808<=c.n/\c.n<=9223372036854775807)/\c.path.length<=1048576/\(aG c.act ⟨c.val.toArray⟩).size<=1048576/\(lW c).length<=1000
 rd:∀k c,C k=some c->Thk.read (lW c)=.inr c/\jq c.act=true
structure dW(S:Nat->Prop)(C:Nat->Option Thk.Ch)(rs:List (Nat×Nat))(its:List (Nat×Thk.Bs)):Prop where
 r505:rs.length<=505
 ro:∀x∈rs,okR x
 XD:its.length<=505
 io:∀x∈its,(who x.1<=5/\1<=nth x.1/\nth x.1<=501)/\x.2.length<16384/\∃c,Thk.read x.2=.inr c/\jq c.act=true
 it:jH its its.length=aU C
 dots:∀d,1<=nth d->((jH its its.length d≠none\/d∈bP rs)↔S d)
 fl:∀d,d∈bP rs↔1<=nth d/\S d
 Jl:(bP rs).Pairwise (· < ·)
 gap:∀j(h:j+1<rs.length),rs[j].1+rs[j].2≠rs[j+1].1
 il:∃ns:List Nat,ns.Nodup/\(∀d∈ns,C d≠none)/\its.length=ns.length
 tx:∀x∈its,∃c,C x.1=some c/\x.2=lW c
 nd:(its.map Prod.fst).Nodup
def XE{C:Nat->Option Thk.Ch}{xs:List jB}(j:ny (aU C) xs)(i:∀d c,C d=some c->Thk.read (lW c)=.inr c):jH (uU C xs) (uU C xs).length=aU C:=by
 funext d;unfold jH;rw[ϑm];obtain⟨⟨_,g⟩,_⟩:=j;cases hf:(uU C xs).reverse.find? (λx=>x.1==d) with
 | none =>
  rw[List.find?_eq_none]at hf;have:C d=none:=ϑc λb=>by have a:=(g d).2 (dO.2 b);obtain⟨x,e,k⟩:=ι.1 a;refine hf (x.n,_) (List.mem_reverse.2 (ι.2 ⟨x,e,rfl⟩)) ?_;simpa using k
  unfold aU;rw[this];(first|done|rfl)
 | some y =>
  have a:=List.find?_some hf;have h:=List.mem_reverse.1 (List.mem_of_find?_eq_some hf);obtain⟨x,e,rfl⟩:=ι.1 h;have f:x.n=d:=by simpa using a
  have b:=dO.1 ((g d).1 (ι.2 ⟨x,e,f⟩));cases hcd:C d with
  | none=>exact absurd hcd b
  | some c =>unfold aU;simp only[Option.bind_some,f,hcd];rw[i d c hcd];rfl
def XF{C:Nat->Option Thk.Ch}(h:jT S C){c:Nat->Nat}{L:Nat->Bool}{ns:List Nat}{rs:List (Nat×Nat)}{xs:List jB}(t:∀d,1<=nth d->(S d↔oW c L d))(o:NR ns)(s:∀d,d∈ns↔1<=nth d/\oW c L d)(i:Runs ns ns.length rs)(e:ny (aU C) xs)(j:xs.length<=505):dW S C rs (uU C xs):=by
 have r:=o.nodup;have p:=XE e (λd c f=>(h.rd d c f).1);have k:bP rs=ns:=by have:=i.flat;rw[ϑm]at this;exact this
 have l:∀d,d∈ns↔1<=nth d/\S d:=λd=>by rw[s];exact and_congr_right λb=>(t d b).symm
 have u:=h.ns ns r (λd b=>(l d).1 b);have w:(uU C xs).length=xs.length:=by unfold uU;simp
 refine⟨ς i.len u,λF v=>?_,V,λG j=>?_,p,λd b=>?_,λd=>by rw[k];exact l d,by rw[k];exact o,i.gap,⟨xs.map jB.n,e.1.1,λd b=>dO.1 ((e.1.2 d).1 b),by rw[w,ϑh]⟩,λG j=>?_, ?_⟩
 .obtain⟨⟨x,A,B⟩,D,E⟩:=i.ok F v;exact⟨⟨x,A,B⟩,D,V,E⟩
 .obtain⟨y,n,rfl⟩:=ι.1 j;have f:=dO.1 ((e.1.2 y.n).1 (ι.2 ⟨y,n,rfl⟩));have m:=(h.ok _ f).1;cases a:C y.n with
  | none=>exact absurd a f
  | some c =>simp only[a];have:=(h.ch _ c a).2.2.2.2;exact⟨⟨m.1,m.2.1,m.2.2⟩,V,c,h.rd _ c a⟩
 .rw[p,k,dO,l];constructor
  .rintro(g|g)
   .exact(h.ok d g).2
   .exact g.2
  .intro g;exact υ ⟨b,g⟩
 .obtain⟨y,n,rfl⟩:=ι.1 j;have f:=dO.1 ((e.1.2 y.n).1 (ι.2 ⟨y,n,rfl⟩));obtain⟨c,a⟩:=Option.ne_none_iff_exists'.1 f;exact⟨c,a,by simp only[a]⟩
 .have q:(uU C xs).map Prod.fst=xs.map jB.n:=by unfold uU;rw[ϑK];(first|done|rfl)
  rw[q];exact e.1.1
def jT.items{C:Nat->Option Thk.Ch}(h:jT S C){v:Value}{N:Nat}(f:dQ prog 140 w v N (im (aU C))):N<=505:=by obtain⟨g,a,b,c⟩:=Lr f;rw[<- b];exact h.ns g a (λd e=>by have:=h.ok d (dO.1 ((c d).1 e));exact⟨this.1.2.1,this.2⟩)
structure Q7(w:World)(io co lo:Option Nat)(S:Nat->Prop)(C:Nat->Option Thk.Ch):Prop where
 r:ji w (.map io) (.map co) (.map lo) S (aU C)
 b:jT S C
def Q7.below{io co lo:Option Nat}{C:Nat->Option Thk.Ch}(h:Q7 w io co lo S C)(a:Below w.heap.size w w'):Q7 w' io co lo S C:=⟨h.r.below a,h.b⟩
def Au(w:World)(m:Glob w)(io co lo:Option Nat)(S:Nat->Prop)(C:Nat->Option Thk.Ch)(h:Q7 w io co lo S C):Calls prog 66 #[.agg #[.map io,.map co,.map lo]] w λe w'=>∃s rs a,e=.returned (.string s)/\ay s=encS rs a/\dW S C rs a/\s.size<=700000/\Below w.heap.size w w':=by
 obtain⟨g,L,t,_,o⟩:=h.r.ctx;obtain⟨N,d⟩:=h.r.its;have E:=h.b.items d;have G:=m.size;have y:J<|∀f,Calls prog 120 #[.slice none 0 0,.agg #[.map io,.map co,.map lo]] (w.alloc f) λe w'=>∃c n k s rs a,e=.returned (.slice c n k)/\(convert 190 9 (.slice c n k)).run prog w'=.ok (.string s) w'/\(ay s=encS rs a/\dW S C rs a/\s.size<=700000/\Below w.heap.size w w'):=λf=>by have b:Below w.heap.size w (w.alloc f):=(φ _ w).alloc (χ _) _;refine ψ (DY (w.alloc f) (m.mono b) w.heap.size G (.slice none 0 0) [] (bU.nil _ _) b.size Ω io co lo g L C N (t.below b) (d.below b) (λk p=>(h.b.ok k p).1) E (λx i j=>h.b.ns x i (λq F=>by have:=(j q).1 F;exact⟨this.1,(o q this.1).2 this.2⟩)) h.b.ch) ?_;rintro e w'⟨M,x,rs,xs,rfl,i,j,B,r,l,D⟩;obtain⟨c,n,k,rfl⟩:=l.shape;have K:=BD d r;have v:=XF h.b o i j B r V;rw[List.nil_append]at l;refine⟨c,n,k,_,rs,uU C xs,rfl,DZ l (by unfold encS;rw[ϑl,ϑl];exact ZM _ _),by rw[tX],v, ?_,b.trans (D.below b.size)⟩;rw[<- aB,tX];have:=D5 (C:=C) (rs:=rs) (xs:=xs) [] Ω v.r505 V (λk g p=>(h.b.ch k g p).2.2.2.2);rw[List.nil_append]at this;omega
 clear m t d h o;go_enter func66,ntmps66;go_wp2_with fail;refine ψ (y.o _) ?_;rintro e P⟨c,n,k,s,rs,a,rfl,H,u⟩;have A:=ω u;clear u;go_wp2_with fail;go_ret;exact⟨s,rs,a,rfl,A.o⟩
structure Dd where
 K:Nat->Nat
 C:Nat->Option Thk.Ch
 n:Nat
structure RD where
 rb:Nat
 a:Nat
 io:Option Nat
 co:Option Nat
 lo:Option Nat
 kb:Nat
 db:Nat
 room:Nat
 pv:Value
 dr:Nat
 ab:Nat
 nb:List Nat
 A:Nat->Nat
 ps:List iJ
 K:Nat->Nat
 C:Nat->Option Thk.Ch
 n:Nat
 cut:Bool
 k:Int
 dd:Option Dd
def RD.xH(r:RD):Dd:=r.dd.getD ⟨r.K,r.C,r.n⟩
def RD.zK{r:RD}(h:r.dd=none):r.xH=⟨r.K,r.C,r.n⟩:=by unfold RD.xH;rw[h];(first|done|rfl)
def Q8(r:RD):Prop:=r.cut=false\/(r.cut=true/\∃m:Nat,r.k=(m:Int))
def fst(K:Nat->Nat)(d:Nat):Prop:=nth d<=K (who d)
def RD.known(r:RD):jF:=⟨r.io,r.co,r.lo,fst r.K,aU r.C⟩
structure cO(w:World)(r:RD):Prop where
 blk:aC w r.rb #[I r.a,.map r.io,.map r.co,.map r.lo,.pointer (some (z r.kb)),.pointer (some (z r.db)),.bool r.dd.isSome] 129
 st:Q7 w r.io r.co r.lo (fst r.K) r.C
 kept:dP w r.kb r.room r.pv r.dr r.ab r.nb r.A r.ps
 xH:∃rs its,gy w r.db r.xH.n (encS rs its) r.cut r.k/\dW (fst r.xH.K) r.xH.C rs its
 apart:¬(r.io=some r.ab\/r.co=some r.ab\/r.lo=some r.ab)
 nI:∀x,r.K x<=500
 a5:r.a<=5
 n:r.xH.n<=aF r.xH.K
 dg:jT (fst r.xH.K) r.xH.C/\∀x,r.xH.K x<=500
def cO.XG{r:RD}(h:cO w r)(e:r.dd=none):(∃d c,gy w r.db r.n (encS d c) r.cut r.k/\dW (fst r.K) r.C d c)/\r.n<=aF r.K:=by have a:=h.xH;have b:=h.n;rw[RD.zK e]at a b;exact⟨a,b⟩
def cO.mkU{r:RD}(a:r.dd=none)(f:aC w r.rb #[I r.a,.map r.io,.map r.co,.map r.lo,.pointer (some (z r.kb)),.pointer (some (z r.db)),.bool r.dd.isSome] 129)(b:Q7 w r.io r.co r.lo (fst r.K) r.C)(g:dP w r.kb r.room r.pv r.dr r.ab r.nb r.A r.ps)(h:∃e d,gy w r.db r.n (encS e d) r.cut r.k/\dW (fst r.K) r.C e d)(i:¬(r.io=some r.ab\/r.co=some r.ab\/r.lo=some r.ab))(c:∀x,r.K x<=500)(j:r.a<=5)(k:r.n<=aF r.K):cO w r :=
 ⟨f,b,g,by rw[RD.zK a];exact h,i,c,j,by rw[RD.zK a];exact k,by rw[RD.zK a];exact⟨b.b,c⟩⟩
def RD.own(r:RD)(k:Nat):Prop:=k=r.rb\/(r.io=some k\/r.co=some k\/r.lo=some k)\/Jd r.kb r.pv r.ab r.ps k\/k=r.db
def cO.aJ{M:Nat->Prop}{r:RD}(h:cO w r)(a:aA M w w')(b:∀k,r.own k->¬M k):cO w' r:=by obtain⟨j,i,d,e⟩:=h.xH;exact⟨h.blk.aJ a (b _ (τ rfl)),⟨h.st.r.aJ a (λc f=>b c (υ (τ (by rcases f with h|h|h<;>simp only[Value.map.injEq]at h<;>simp[h])))),h.st.b⟩,h.kept.aJ a (λk g=>b k (υ (υ (τ g)))),⟨j,i,d.aJ a (b _ (υ (υ (υ rfl)))),e⟩,h.apart,h.nI,h.a5,h.n,h.dg⟩
def cO.below{r:RD}(h:cO w r)(a:Below w.heap.size w w'):cO w' r:=h.aJ (M:=λ_=>False) (aA.of_below a) (λ_ _ h=>h)
def gy.blk{a n:Nat}{t:Thk.Bs}{c:Bool}{k:Int}(h:gy w a n t c k):∃d,aC w a d 187:=by obtain⟨f,e,b,_⟩:=h;exact⟨_,b⟩
def cO.lt{r:RD}(h:cO w r){k:Nat}(a:r.own k):k<w.heap.size:=by
 rcases a with rfl|a|a|rfl
 .exact h.blk.lt
 .exact h.st.r.lt k (by rcases a with h|h|h<;>simp[h])
 .exact h.kept.lt a
 .obtain⟨f,e,b,_⟩:=h.xH;obtain⟨d,c⟩:=b.blk;exact c.lt
def cO.at{r:RD}(h:cO w r):r.known.At w:=⟨h.st.r,λn x a=>lC a⟩
def cO.rep{r:RD}(h:cO w r):vH w r.rb r.a r.io r.co r.lo r.K r.C:=⟨⟨_,_,_,h.blk⟩,h.st.r,λk c a=>(h.st.b.ch k c a).2.2.1,h.nI,h.a5⟩
def wX{P:Program}(w:World){l:Array Oper}{p:List Oper}{o:Oper}{a:Act}{Q:Exit->Act->World->Prop}(H:o.guard=none)(s x:Operand)(t:TypeId)(T:o.op=Op.call { callee:=Callee.builtin Builtin.append,args:=#[s,x],argTypes:=#[t,t] })(e:TypeId)(i:TypeInfo)(h:Value)(size bytes:Nat)(v:P.underlying t=some (.slice e))(y:P.info? e=some i)(A:i.zero=some h)(B:i.size=size)(C:i.bytes=bytes)(D:h.cells.size=size)(E:0<size)(g n:Nat)(c:List Value)(W:a.eval s=.slice (some (z g)) n n)(M:c.length=n*size)(S:∀j u,c[j]?=some u->w.cell? (((z g):Addr).add j)=some u)(f:Addr)(m k:Nat)(b:List Value)(X:a.eval x=.slice (some f) m k)(N:b.length=m*size)(G:∀j u,b[j]?=some u->w.cell? (f.add j)=some u)(Z:0<m)(q:n+m<=maxLen)(r:(n+m)*bytes<=140737488355328)(L:∀d w',w'.ownsRow w.heap.size e size d (n+m) (c++b)->w.grownBy w' none->wpList P l Q p (a.put o.dst d) w'):wpList P l Q (o::p) a w:=by refine wpList_plain H λY F=>?_;obtain⟨d,w',U,R,K⟩:=run_append_arg_grows (P:=P) w t o.type e i h size bytes v y A B C D E (z g) n n c M S f m k b N G V q r;unfold Oper.wp;simp[execOp,T,resolve,invoke,builtin,W,X,U,Result.andThen];exact F _ _ (L d w' R K)
def wY(bF:List jF)(K:Nat->Nat)(C:Nat->Option Thk.Ch):Prop :=
 (∀It:Nat->Option Value,(∀n,It n≠none->okD n)->(∀n v,It n=some v->(∃s∈bF,s.It n=some v)/\¬dA bF n)->(∀n,(∃s∈bF,s.It n≠none)->¬dA bF n->It n≠none)->It=aU C) /\
 ∀d,1<=nth d->((∃s∈bF,s.S d)↔fst K d)
def eY(r:RD)(K:Nat->Nat)(C:Nat->Option Thk.Ch)(d:Nat):Prop:=fst K d/\¬(fst r.K d/\(C d=none↔r.C d=none))
open Classical in
noncomputable def newC(r:RD)(K:Nat->Nat)(C:Nat->Option Thk.Ch)(d:Nat):Option Thk.Ch:=if eY r K C d then C d else none
def gX{C:Nat->Option Thk.Ch}{d:Nat}:aU C d=none↔C d=none:=by unfold aU;cases C d<;>simp
def aj2(r:RD)(K:Nat->Nat)(C:Nat->Option Thk.Ch)(s:jF)(c:s.S=fst K)(b:s.It=aU C):newS s r.known=eY r K C/\Ub s r.known=aU (newC r K C):=by
 have a:newS s r.known=eY r K C:=by funext d;unfold newS eY;rw[c,b];show(fst K d/\¬(fst r.K d/\(aU C d=none↔aU r.C d=none)))=_;rw[gX,gX]
 refine⟨a, ?_⟩;funext d;unfold Ub newC;rw[a,b];by_cases h:eY r K C d
 .rw[ώ h];unfold aU;dsimp only;rw[ώ h]
 .rw[ύ h];unfold aU;dsimp only;rw[ύ h];(first|done|rfl)
