import Derived.Test.YtfmmllpjgkgeaaaGreatDoorPartM19
import Derived.Test.YtfmmllpjgkgeaaaGreatDoorPartM20
import Derived.Test.YtfmmllpjgkgeaaaGreatDoorPartM25
set_option linter.unusedVariables false
set_option linter.unusedSimpArgs false
set_option maxHeartbeats 16000000
set_option maxRecDepth 100000
namespace Go.Proofs.YtfmmllpjgkgeaaaGreatDoor
open Go.Proofs.Tryz Go.RowKit Go.Maps Go.WideMaps Go.Shelf
variable{S:Nat->Prop}{w w':World}
theorem NV(w:World)(s o:jh)(h:s.At w)(ho:o.At w):Calls prog 151 #[.agg #[.map s.io,.map s.co,.map s.lo],.agg #[.map o.io,.map o.co,.map o.lo]] w λe w'=>∃ib cb lb,e=.returned (.agg #[.map (some ib),.map (some cb),.map (some lb)])/\aN w' ib cb lb (newS s o) (NH s o)/\(w.heap.size<=ib/\w.heap.size<=cb/\w.heap.size<=lb)/\Below w.heap.size w w' :=
 Qx (λw co lo c L h=>La w co lo c L h) w s o h ho
structure kR(S:Nat->Prop)(C:Nat->Option Thk.Ch):Prop where
 ns:∀ns:List Nat,ns.Nodup->(∀d∈ns,1<=nth d/\S d)->ns.length<=505
 ok:∀k,C k≠none->okD k/\S k
 ch:∀k c,C k=some c->(c.act=43\/c.act=94\/c.act=61\/c.act=62)/\(-9223372036854775808<=c.n/\c.n<=9223372036854775807)/\c.path.length<=1048576/\(aC c.act ⟨c.val.toArray⟩).size<=1048576/\(kQ c).length<=1000
 rd:∀k c,C k=some c->Thk.read (kQ c)=.inr c/\ig c.act=true
structure jE(S:Nat->Prop)(C:Nat->Option Thk.Ch)(rs:List (Nat×Nat))(its:List (Nat×Thk.Bs)):Prop where
 r505:rs.length<=505
 ro:∀x∈rs,okR x
 Z5:its.length<=505
 io:∀x∈its,(who x.1<=5/\1<=nth x.1/\nth x.1<=501)/\x.2.length<16384/\∃c,Thk.read x.2=.inr c/\ig c.act=true
 it:jy its its.length=aO C
 dots:∀d,1<=nth d->((jy its its.length d≠none\/d∈bP rs)↔S d)
theorem Q5{C:Nat->Option Thk.Ch}{xs:List gX}(hx:jU (aO C) xs)(hr:∀d c,C d=some c->Thk.read (kQ c)=.inr c):jy (rD C xs) (rD C xs).length=aO C:=by
 funext d;unfold jy;rw[List.take_length];obtain⟨⟨_,hmem⟩,_⟩:=hx;cases hf:(rD C xs).reverse.find? (λx=>x.1==d) with
 | none =>
  rw[List.find?_eq_none]at hf;have:C d=none:=Classical.byContradiction λhc=>by have h1:=(hmem d).2 (dW.2 hc);obtain⟨x,hx1,hx2⟩:=List.mem_map.1 h1;refine hf (x.n,_) (List.mem_reverse.2 (List.mem_map.2 ⟨x,hx1,rfl⟩)) ?_;simpa using hx2
  unfold aO;rw[this];(first|done|rfl)
 | some y =>
  have h1:=List.find?_some hf;have h2:=List.mem_reverse.1 (List.mem_of_find?_eq_some hf);obtain⟨x,hx1,rfl⟩:=List.mem_map.1 h2;have hd:x.n=d:=by simpa using h1
  have hc:C d≠none:=dW.1 ((hmem d).1 (List.mem_map.2 ⟨x,hx1,hd⟩));cases hcd:C d with
  | none=>exact absurd hcd hc
  | some c =>unfold aO;simp only[Option.bind_some,hd,hcd];rw[hr d c hcd];rfl
theorem Q7{C:Nat->Option Thk.Ch}(h:kR S C){c:Nat->Nat}{L:Nat->Bool}{ns:List Nat}{rs:List (Nat×Nat)}{xs:List gX}(hS:∀d,1<=nth d->(S d↔kW c L d))(h1:ns.Nodup)(h2:∀d,d∈ns↔1<=nth d/\kW c L d)(h3:Runs ns ns.length rs)(h4:jU (aO C) xs)(hx:xs.length<=505):jE S C rs (rD C xs):=by
 have hit:=Q5 h4 (λd c hc=>(h.rd d c hc).1);have hfl:bP rs=ns:=by have:=h3.flat;rw[List.take_length]at this;exact this
 have hin:∀d,d∈ns↔1<=nth d/\S d:=λd=>by rw[h2];exact and_congr_right λhd=>(hS d hd).symm
 have hnl:=h.ns ns h1 (λd hd=>(hin d).1 hd);have hwl:(rD C xs).length=xs.length:=by unfold rD;simp
 refine⟨Nat.le_trans h3.len hnl,λr hr2=>?_,by omega,λx hx=>?_,hit,λd hd=>?_⟩
 ·obtain⟨⟨o1,o2,o3⟩,o4,o5⟩:=h3.ok r hr2;exact⟨⟨o1,o2,o3⟩,o4,by omega,o5⟩
 ·obtain⟨y,hy,rfl⟩:=List.mem_map.1 hx;have hc:C y.n≠none:=dW.1 ((h4.1.2 y.n).1 (List.mem_map.2 ⟨y,hy,rfl⟩));have ho:=(h.ok _ hc).1;cases hcy:C y.n with
  | none=>exact absurd hcy hc
  | some c =>simp only[hcy];have:=(h.ch _ c hcy).2.2.2.2;exact⟨⟨ho.1,ho.2.1,ho.2.2⟩,by omega,c,h.rd _ c hcy⟩
 ·rw[hit,hfl,dW,hin];constructor
  ·rintro(h6|h6)
   ·exact(h.ok d h6).2
   ·exact h6.2
  ·intro h6;exact Or.inr ⟨hd,h6⟩
theorem kR.items{C:Nat->Option Thk.Ch}(h:kR S C){v:Value}{N:Nat}(hm:cZ prog 134 w v N (im (aO C))):N<=505:=by obtain⟨ns,h1,h2,h3⟩:=FV hm;rw[<- h2];exact h.ns ns h1 (λd hd=>by have:=h.ok d (dW.1 ((h3 d).1 hd));exact⟨this.1.2.1,this.2⟩)
structure Ll(w:World)(io co lo:Option Nat)(S:Nat->Prop)(C:Nat->Option Thk.Ch):Prop where
 r:iD w (.map io) (.map co) (.map lo) S (aO C)
 b:kR S C
theorem Ll.below{io co lo:Option Nat}{C:Nat->Option Thk.Ch}(h:Ll w io co lo S C)(hb:Below w.heap.size w w'):Ll w' io co lo S C:=⟨h.r.below hb,h.b⟩
theorem wM(w:World)(hG:Glob w)(io co lo:Option Nat)(S:Nat->Prop)(C:Nat->Option Thk.Ch)(h:Ll w io co lo S C):Calls prog 123 #[.agg #[.map io,.map co,.map lo]] w λe w'=>∃s rs its,e=.returned (.string s)/\ah s=encS rs its/\jE S C rs its/\s.size<=700000/\Below w.heap.size w w':=by
 obtain⟨c,L,hC,_,hS⟩:=h.r.ctx;obtain⟨N,hN⟩:=h.r.its;have hN5:=h.b.items hN;have hg3:=hG.size;have HW:Hid (∀ob,Calls prog 165 #[.slice none 0 0,.agg #[.map io,.map co,.map lo]] (w.alloc ob) λe w'=>∃va n k s rs its,e=.returned (.slice va n k)/\(convert 93 9 (.slice va n k)).run prog w'=.ok (.string s) w'/\(ah s=encS rs its/\jE S C rs its/\s.size<=700000/\Below w.heap.size w w')):=λob=>by have hb:Below w.heap.size w (w.alloc ob):=(Below.refl _ w).alloc (Nat.le_refl _) _;refine Calls.mono (zD (w.alloc ob) (hG.mono hb) w.heap.size hg3 (.slice none 0 0) [] (bF.nil _ _) hb.size (by simp) io co lo c L C N (hC.below hb) (hN.below hb) (λk hk=>(h.b.ok k hk).1) hN5 (λns h1 h2=>h.b.ns ns h1 (λd hd=>by have:=(h2 d).1 hd;exact⟨this.1,(hS d this.1).2 this.2⟩)) h.b.ch) ?_;rintro e w'⟨v',ns,rs,xs,rfl,h1,h2,h3,h4,h5,h6⟩;obtain⟨va,n,k,rfl⟩:=h5.shape;have hxN:=xM hN h4;have hen:=Q7 h.b hS h1 h2 h3 h4 (by omega);rw[List.nil_append]at h5;refine⟨va,n,k,_,rs,rD C xs,rfl,zF h5 (by unfold encS;rw[List.append_assoc,List.append_assoc];exact Uw _ _),by rw[qF],hen, ?_,hb.trans (h6.below hb.size)⟩;rw[<- aB,qF];have:=zG (C:=C) (rs:=rs) (xs:=xs) [] (by simp) hen.r505 (by omega) (λk c hk=>(h.b.ch k c hk).2.2.2.2);rw[List.nil_append]at this;omega
 clear hG hC hN h hS;go_enter func123,ntmps123;go_wp2_with fail;refine Calls.mono (HW.out _) ?_;rintro e w2⟨va,n,k,s,rs,its,rfl,hcv,hX⟩;have HX:Hid (ah s=encS rs its/\jE S C rs its/\s.size<=700000/\Below w.heap.size w w2):=hX;clear hX;go_wp2_with fail;go_ret;exact⟨s,rs,its,rfl,HX.out⟩
structure RD where
 rb:Nat
 a:Nat
 io:Option Nat
 co:Option Nat
 lo:Option Nat
 kb:Nat
 db:Nat
 room:Nat
 pv:Value
 dr:Nat
 ab:Nat
 nb:List Nat
 A:Nat->Nat
 ps:List jA
 K:Nat->Nat
 C:Nat->Option Thk.Ch
 n:Nat
 cut:Bool
 k:Int
def fst(K:Nat->Nat)(d:Nat):Prop:=nth d<=K (who d)
def RD.known(r:RD):jh:=⟨r.io,r.co,r.lo,fst r.K,aO r.C⟩
structure dQ(w:World)(r:RD):Prop where
 blk:aA w r.rb #[.int .i64 r.a,.map r.io,.map r.co,.map r.lo,.pointer (some ⟨r.kb,0,none⟩),.pointer (some ⟨r.db,0,none⟩),.bool false] 125
 st:Ll w r.io r.co r.lo (fst r.K) r.C
 kept:dJ w r.kb r.room r.pv r.dr r.ab r.nb r.A r.ps
 Xm:∃rs its,jo w r.db r.n (encS rs its) r.cut r.k/\jE (fst r.K) r.C rs its
 apart:¬(r.io=some r.ab\/r.co=some r.ab\/r.lo=some r.ab)
 xw:∀x,r.K x<=500
 a5:r.a<=5
 n:r.n<=aV r.K
def RD.own(r:RD)(k:Nat):Prop:=k=r.rb\/(r.io=some k\/r.co=some k\/r.lo=some k)\/DZ r.kb r.pv r.ab r.ps k\/k=r.db
theorem dQ.aJ{M:Nat->Prop}{r:RD}(h:dQ w r)(hc:ay M w w')(hm:∀k,r.own k->¬M k):dQ w' r:=by obtain⟨rs,its,h1,h2⟩:=h.Xm;exact⟨h.blk.aJ hc (hm _ (Or.inl rfl)),⟨h.st.r.aJ hc (λb hb=>hm b (Or.inr (Or.inl (by rcases hb with h|h|h<;>simp only[Value.map.injEq]at h<;>simp[h])))),h.st.b⟩,h.kept.aJ hc (λk hk=>hm k (Or.inr (Or.inr (Or.inl hk)))),⟨rs,its,h1.aJ hc (hm _ (Or.inr (Or.inr (Or.inr rfl)))),h2⟩,h.apart,h.xw,h.a5,h.n⟩
theorem dQ.below{r:RD}(h:dQ w r)(hb:Below w.heap.size w w'):dQ w' r:=h.aJ (M:=λ_=>False) (ay.of_below hb) (λ_ _ h=>h)
theorem jo.blk{db n:Nat}{t:Thk.Bs}{c:Bool}{k:Int}(h:jo w db n t c k):∃cs,aA w db cs 229:=by obtain⟨sl,O,a,_⟩:=h;exact⟨_,a⟩
theorem dQ.lt{r:RD}(h:dQ w r){k:Nat}(hk:r.own k):k<w.heap.size:=by
 rcases hk with rfl|hk|hk|rfl
 ·exact h.blk.lt
 ·exact h.st.r.lt k (by rcases hk with h|h|h<;>simp[h])
 ·exact h.kept.lt hk
 ·obtain⟨rs,its,h1,_⟩:=h.Xm;obtain⟨cs,hcs⟩:=h1.blk;exact hcs.lt
theorem dQ.at{r:RD}(h:dQ w r):r.known.At w:=⟨h.st.r,λn x hx=>jL hx⟩
theorem dQ.rep{r:RD}(h:dQ w r):qC w r.rb r.a r.io r.co r.lo r.K r.C:=⟨⟨_,_,_,h.blk⟩,h.st.r,λk c hc=>(h.st.b.ch k c hc).2.2.1,h.xw,h.a5⟩
theorem sS{P:Program}(w:World){ops:Array Oper}{rest:List Oper}{o:Oper}{a:Act}{Q:Exit->Act->World->Prop}(hg:o.guard=none)(s x:Operand)(t:TypeId)(hop:o.op=Op.call { callee:=Callee.builtin Builtin.append,args:=#[s,x],argTypes:=#[t,t] })(e:TypeId)(i:TypeInfo)(z:Value)(size bytes:Nat)(h1:P.underlying t=some (.slice e))(h2:P.info? e=some i)(h3:i.zero=some z)(h4:i.size=size)(h5:i.bytes=bytes)(h6:z.cells.size=size)(h7:0<size)(b n:Nat)(olds:List Value)(hs:a.eval s=.slice (some ⟨b,0,none⟩) n n)(hlo:olds.length=n*size)(holds:∀j u,olds[j]?=some u->w.cell? ((⟨b,0,none⟩:Addr).add j)=some u)(ad:Addr)(m c:Nat)(news:List Value)(hx:a.eval x=.slice (some ad) m c)(hn:news.length=m*size)(hc:∀j u,news[j]?=some u->w.cell? (ad.add j)=some u)(hm:0<m)(b1:n+m<=maxLen)(b2:(n+m)*bytes<=140737488355328)(hgrow:∀v' w',w'.ownsRow w.heap.size e size v' (n+m) (olds++news)->w.grownBy w' none->wpList P ops Q rest (a.put o.dst v') w'):wpList P ops Q (o::rest) a w:=by refine wpList_plain hg λK hK'=>?_;obtain⟨v',w',hrun,ho,hgr⟩:=run_append_arg_grows (P:=P) w t o.type e i z size bytes h1 h2 h3 h4 h5 h6 h7 ⟨b,0,none⟩ n n olds hlo holds ad m c news hn hc (by omega) b1 b2;unfold Oper.wp;simp[execOp,hop,resolve,invoke,builtin,hs,hx,hrun,Result.andThen];exact hK' _ _ (hgrow v' w' ho hgr)
def sU(aS:List jh)(K:Nat->Nat)(C:Nat->Option Thk.Ch):Prop :=
 (∀It:Nat->Option Value,(∀n,It n≠none->okD n)->(∀n v,It n=some v->(∃s∈aS,s.It n=some v)/\¬bJ aS n)->(∀n,(∃s∈aS,s.It n≠none)->¬bJ aS n->It n≠none)->It=aO C) /\
 ∀d,1<=nth d->((∃s∈aS,s.S d)↔fst K d)
def fD(r:RD)(K:Nat->Nat)(C:Nat->Option Thk.Ch)(d:Nat):Prop:=fst K d/\¬(fst r.K d/\(C d=none↔r.C d=none))
open Classical in
noncomputable def newC(r:RD)(K:Nat->Nat)(C:Nat->Option Thk.Ch)(d:Nat):Option Thk.Ch:=if fD r K C d then C d else none
theorem fM{C:Nat->Option Thk.Ch}{d:Nat}:aO C d=none↔C d=none:=by unfold aO;cases C d<;>simp
theorem Xn(r:RD)(K:Nat->Nat)(C:Nat->Option Thk.Ch)(s:jh)(hS:s.S=fst K)(hI:s.It=aO C):newS s r.known=fD r K C/\NH s r.known=aO (newC r K C):=by
 have h1:newS s r.known=fD r K C:=by funext d;unfold newS fD;rw[hS,hI];show(fst K d/\¬(fst r.K d/\(aO C d=none↔aO r.C d=none)))=_;rw[fM,fM]
 refine⟨h1, ?_⟩;funext d;unfold NH newC;rw[h1,hI];by_cases h:fD r K C d
 ·rw[if_pos h];unfold aO;dsimp only;rw[if_pos h]
 ·rw[if_neg h];unfold aO;dsimp only;rw[if_neg h];(first|done|rfl)
