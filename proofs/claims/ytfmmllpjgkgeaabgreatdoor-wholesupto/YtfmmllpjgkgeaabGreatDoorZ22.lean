import Derived.Test.YtfmmllpjgkgeaabGreatDoorZ12
set_option linter.all false
set_option maxHeartbeats 0
set_option maxRecDepth 100000
namespace Go.Proofs.YtfmmllpjgkgeaabGreatDoor
section
open Go.Proofs.Tryz Go.RowKit Go.Maps Go.WideMaps
variable{nb ns:List Nat}{cap:Nat}{A:Nat->Nat}{s:jF}{v:Value}{w w':World}
def qx(g:Nat):∀(c:List Value)(o:Nat)(w:World)(a:Array Value)(e:TypeId),w.heap[g]?=some (.cells a e (0,0))->o+c.length<=a.size -> ∃b,(w.setCells g o c).heap[g]?=some (.cells b e (0,0))/\b.size=a.size/\∀j,b[j]?=if o<=j/\j<o+c.length then c[j-o]? else a[j]?
 | [],o,w,a,e,h,_=>⟨a,h,rfl,λj=>by rw[ύ (by simp only[List.length_nil];omega)]⟩
 | v::r,o,w,a,e,h,hl=>by
  simp only[δ]at hl;have i:(w.setCell (O g o) v).heap[g]?=some (.cells (a.setIfInBounds o v) e (0,0)):=by simp[World.setCell,μ,h]
  obtain⟨b,k,l,m⟩:=qx g r (o+1) _ _ e i Θ;refine⟨b,k,by rw[l];simp,λj=>?_⟩;rw[m j,δ];by_cases d:o+1<=j/\j<o+1+r.length
  .rw[ώ d,ώ V,(V:j-o=(j-(o+1))+1),List.getElem?_cons_succ]
  .rw[ύ d];by_cases f:j=o
   .subst f;have n:j<a.size:=V
    rw[ώ V,Nat.sub_self];simp[n]
   .rw[ύ V,Array.getElem?_setIfInBounds,ύ V]
def qy(g:Nat):∀(a:List Value)(o:Nat)(w:World),aA (λk=>k=g) w (w.setCells g o a)/\(w.setCells g o a).heap.size=w.heap.size
 | [],o,w=>⟨aA.refl _ _,rfl⟩
 | v::r,o,w=>by have h:=qy g r (o+1) (w.setCell (O g o) v);exact⟨((aA.refl (λk=>k=g) w).setCell (p:=(O g o)) rfl v).trans h.1,h.2.trans Ω⟩
def FC{P:Program}(w:World)(t e n:TypeId)(f:Value)(k:P.underlying t=some (.slice e))(l:∀w,(zeroValue e).run P w=.ok f w)(a:List Value)(m:(Builtin.zeroCells f.cells 1).toList=a)(g:∀u∈a,u.oneCell'=true)(b o c:Nat)(h:∀j,j<a.length->(w.cell? (O b (o+j))).isSome=true)(i:∀j,j<a.length->w.frozen? (O b (o+j))=false):(Builtin.clear_ #[t] n #[.slice (some (O b o)) 1 c]).run P w=.ok (.tuple #[]) (w.setCells b o a):=by have d:=run_storeCells_cells (P:=P) b o a 0 w (by simpa using h) (by simpa using i) g;simp only[Nat.add_zero]at d;simp[Builtin.clear_,run_underlying k,l,m,d]
structure iJ where
 mark:Nat
 fr:Nat
 st:jF
def iJ.cells(p:iJ):List Value:=[I p.mark,I p.fr,.map p.st.io,.map p.st.co,.map p.st.lo]
def dH(ps:List iJ):List Value:=ps.flatMap iJ.cells
def tu(p:iJ)(ps:List iJ):dH (p::ps)=p.cells++dH ps:=rfl
def LQ(ps:List iJ)(p:iJ):dH (ps++[p])=dH ps++p.cells:=by simp[dH]
def nG(ps:List iJ):(dH ps).length=ps.length*5:=by
 induction ps with
 | nil=>rfl
 | cons p r a=>rw[tu,ρ,a];simp[iJ.cells];omega
def PU(ps:List iJ):∀u∈dH ps,u.oneCell'=true:=by intro u b;obtain⟨x,_,a⟩:=List.mem_flatMap.1 b;simp[iJ.cells]at a;rcases a with rfl|rfl|rfl|rfl|rfl<;>rfl
def zG(ps:List iJ):∀(i:Nat)(h:i<ps.length),(dH ps)[i*5]?=some (I (ps[i].mark))/\(dH ps)[i*5+1]?=some (I (ps[i].fr))/\(dH ps)[i*5+2]?=some (.map ps[i].st.io)/\(dH ps)[i*5+3]?=some (.map ps[i].st.co)/\(dH ps)[i*5+4]?=some (.map ps[i].st.lo):=by
 induction ps with
 | nil=>intro i h;simp at h
 | cons p r ih =>
  intro i h;rw[tu];cases i with
  | zero=>simp[iJ.cells]
  | succ i =>
   have b:p.cells.length=5:=rfl;have e:∀k,(p.cells++dH r)[(i+1)*5+k]?=(dH r)[i*5+k]?:=λk=>by rw[ϋ V,b];congr 1;omega
   have:=ih i (by simpa using h);have a:=e 0;rw[Nat.add_zero,Nat.add_zero]at a;rw[a,e 1,e 2,e 3,e 4];simpa using this
def Tryz.infoPc:(prog.info? 225).map (λi=>(i.zero,i.size,i.bytes))=some (some (.agg #[I 0,I 0,.map none,.map none,.map none]),5,40):=by kernel_rfl
def zPc(w:World):(zeroValue 225).run prog w=.ok (.agg #[I 0,I 0,.map none,.map none,.map none]) w:=by kernel_rfl
def ZH{a:World}{base g:Nat}{p:iJ}{ps:List iJ}{z5:List Value}(G:z5.length=5)(r:w.ownsRow base 225 5 (.slice (some (z g)) (ps.length+1) cap) (ps.length+1) (dH (p::ps)))(i:a=w.drew.setCells g 0 (dH ps)):(a.setCells g (ps.length*5) z5).ownsRow base 225 5 (.slice (some (z g)) ps.length cap) ps.length (dH ps)/\aA (λk=>k=g) w (a.setCells g (ps.length*5) z5)/\(a.setCells g (ps.length*5) z5).heap.size=w.heap.size /\ (∀j,j<5->(a.cell? (O g (ps.length*5+j))).isSome=true)/\(∀j,a.frozen? (O g j)=false):=by
 obtain⟨F,⟨c,_⟩|⟨B,A,h,c,s,t,C,u,D,E⟩⟩:=r
 .cases c
 .simp only[ϑa,ϑb,ϑz,ϑN,ϑM]at c;obtain⟨rfl,rfl⟩:=c;have v:w.drew.heap[g]?=some (.cells h 225 (0,0)):=t;obtain⟨f,b,x,m⟩:=qx g (dH ps) 0 w.drew h _ v (by rw[nG];omega);rw[<- i]at b;obtain⟨q,n,y,o⟩:=qx g z5 (ps.length*5) a f _ b V;have d:=qy g (dH ps) 0 w.drew;have l:=qy g z5 (ps.length*5) a;rw[<- i]at d;refine⟨⟨nG _,υ ⟨g,cap,q,rfl,s,n,V,u,V, ?_⟩⟩, ?_,by rw[l.2,d.2];rfl,λj e=>?_,λj=>?_⟩
  .refine List.ext_getElem? λj=>?_;rw[List.getElem?_take];by_cases e:j<ps.length*5
   .rw[ώ e,ϑD,o,ύ V,m,ώ (by rw[nG];omega),Nat.sub_zero]
   .rw[ύ e,ϑq (by rw[nG];omega)]
  .have:aA (λk=>k=g) w w.drew:=aA.of_below (φ _ w).drew;exact(this.trans d.1).trans l.1
  .have:ps.length*5+j<f.size:=V
   simp[World.cell?,b,this]
  .simp[World.frozen?,b]
def PV(w:World)(base g cap:Nat)(p:iJ)(ps:List iJ)(h:w.ownsRow base 225 5 (.slice (some (z g)) (ps.length+1) cap) (ps.length+1) (dH (p::ps)))(X:ps.length<=1000):Calls prog 234 #[.slice (some (z g)) ((ps.length+1:Nat)) cap,I 0,I 1] w λv w'=>v=.returned (.slice (some (z g)) ps.length cap)/\w'.ownsRow base 225 5 (.slice (some (z g)) ps.length cap) ps.length (dH ps)/\aA (λN=>N=g) w w'/\w'.heap.size=w.heap.size:=by
 obtain⟨M,F,Z,L,a0⟩:=info_parts Tryz.infoPc;obtain⟨b,i⟩:∃b,b=w.drew.setCells g 0 (dH ps):=⟨_,rfl⟩;have c:=ZH (z5:=[I 0,I 0,.map none,.map none,.map none]) rfl h i;have U:ps.length+1<=cap/\cap<=9223372036854775807:=by
  obtain⟨_,⟨a,_⟩|⟨x,s,n,a,y,f,B,o,C,D⟩⟩:=h
  .cases a
  .simp only[ϑa]at a;obtain⟨_,_,rfl⟩:=a;unfold maxLen at o;omega
 have m:∀j u,(dH ps)[j]?=some u->w.drew.cell? (O g (5+j))=some u:=λj u G=>by have:=h.cells (g:=g) rfl (5+j) u (by rw[tu,ϋ (by simp[iJ.cells])];simpa[iJ.cells]using G);rw[Addr.add_lit,Nat.zero_add]at this;exact this
 obtain⟨A,S,H⟩:∃A:Addr,(if cap=1 then some ((z g):Addr)else some (O g 5))=some A/\J (∀t u,(dH ps)[t]?=some u->w.drew.cell? (A.add t)=some u):=by
  by_cases q:cap=1
  .refine⟨(z g),by simp[q],λt u k=>?_⟩;have:ps=[]:=List.length_eq_zero_iff.1 V;subst this;simp[dH]at k
  .exact⟨(O g 5),by simp[q],λt u k=>by rw[Addr.add_lit];exact m t u k⟩
 have r:=ω<|nG ps
 have P:=ω<|PU ps
 have Q:J<|∀t,t<(dH ps).length->(w.drew.cell? (O g (0+0*5+t))).isSome=true/\w.drew.frozen? (O g (0+0*5+t))=false:=λt K=>by
  obtain⟨_,⟨a,_⟩|⟨x,s,n,a,y,f,B,o,C,D⟩⟩:=h
  .cases a
  .simp only[ϑa,ϑb,ϑz,ϑN,ϑM]at a;obtain⟨rfl,rfl⟩:=a;rw[r.o]at K;have:t<n.size:=V
   refine⟨?_, ?_⟩
   .show(w.cell? _).isSome=true;simp[World.cell?,f,this]
   .show w.frozen? _=false;simp[World.frozen?,f]
 have W:∀l e,(Builtin.clear_ #[182] l #[.slice (some (O g (ps.length*5))) 1 e]).run prog b=.ok (.tuple #[]) (b.setCells g (ps.length*5) [I 0,I 0,.map none,.map none,.map none]) :=
  λl e=>FC b _ _ l _ underlying182 zPc _ (by kernel_rfl) (by simp[Value.oneCell']) g (ps.length*5) e c.2.2.2.1 (λj _=>c.2.2.2.2 _)
 have d:J<|_:=c;have E:J<|b=w.drew.setCells g (0+0*5) (dH ps):=ω<|by simpa using i
 have T:(1:Nat)<=cap:=V
 have Y:ps.length<=cap:=V
 have R:(1:Int)<=(ps.length:Int)+1:=V
 clear i c h m;go_enter func234,ntmps234;go_wp2_with fail
 go_region_law (refine step_append_room rfl (.tmp 22) (.tmp 25) 182 rfl 225 M 5 underlying182 F L g 0 0 cap (by simp[Act.eval,Act.put]) A ps.length (cap-1) (dH ps) (by simp[Act.eval,Act.put]) r.o H.o P.o V Q.o ?_;rw[<- E.o])
 go_wp2;go_ret;exact⟨rfl,d.o.1,d.o.2.1,d.o.2.2.1⟩
noncomputable def am(nb:List Nat)(A:Nat->Nat):Value->Option Value:=λkey=>@dite _ (∃a:Nat,key=I a) (Classical.propDecidable _) (λh=>if Classical.choose h∈nb then some (I (A (Classical.choose h)))else none) (λ_=>none)
def wo(nb:List Nat)(A:Nat->Nat)(a:Nat):am nb A (I a)=if a∈nb then some (I (A a))else none:=by
 unfold am;have h:∃b:Nat,Value.int .i64 a=I b:=⟨a,rfl⟩;rw[dif_pos h];have e:Classical.choose h=a:=by have c:=Classical.choose_spec h;generalize Classical.choose h=b at *;simp at c;omega
 rw[e]
def tC{key:Value}(h:am nb A key=some v):∃a:Nat,key=I a/\v=I (A a)/\a∈nb:=by
 by_cases c:∃a:Nat,key=I a
 .obtain⟨a,rfl⟩:=c;rw[wo]at h;by_cases b:a∈nb
  .rw[ώ b]at h;cases h;exact⟨a,rfl,rfl,b⟩
  .rw[ύ b]at h;cases h
 .unfold am at h;rw[dif_neg c]at h;cases h
def Jc{m:Value->Option Value}(c:∀a:Nat,m (I a)=if a∈nb then some (I (A a))else none)(d:∀key,(∀a:Nat,key≠I a)->m key=none):m=am nb A:=by
 funext key;by_cases b:∃a:Nat,key=I a
 .obtain⟨a,rfl⟩:=b;rw[wo,c]
 .rw[d key (λa e=>b ⟨a,e⟩)];unfold am;rw[dif_neg b]
def Xi(nb:List Nat)(A:Nat->Nat)(a m:Nat):upd (am nb A) (I a) (I m)=am (if a∈nb then nb else nb++[a]) (λx=>if x=a then m else A x):=by
 refine Jc (λx=>?_) (λkey c=>?_)
 .by_cases e:x=a
  .subst e;rw[upd_same,ώ rfl,ώ];by_cases h:x∈nb
   .rw[ώ h];exact h
   .rw[ύ h];simp
  .have:¬(Value.int IntKind.i64 (x:Int)=I a):=λh=>e (by simp at h;omega);rw[jw this,wo,ύ e];by_cases h:a∈nb
   .rw[ώ h]
   .rw[ύ h];by_cases b:x∈nb
    .rw[ώ b,ώ (θ.2 (τ b))]
    .rw[ύ b,ύ (λh=>by rcases θ.1 h with h|h;exact b h;exact e (by simpa using h))]
 .rw[jw (c a)];unfold am;rw[dif_neg (λ⟨d,f⟩=>c d f)]
def Gu{a m:Nat}(h:a∈nb):upd (am nb A) (I a) (I m)=am nb (λx=>if x=a then m else A x):=by rw[Xi,ώ h]
def ai5(A:Nat->Nat):am [] A=λ_=>none:=(Jc (λa=>Ω) (λ_ _=>rfl)).symm
def jF.own(s:jF)(k:Nat):Prop:=s.io=some k\/s.co=some k\/s.lo=some k
def jF.At.ZI{M:Nat->Prop}(h:s.At w)(c:aA M w w')(d:∀k,s.own k->¬M k):s.At w' :=
 h.aJ c (λb a=>d b (by rcases a with h|h|h<;>simp only[Value.map.injEq]at h<;>simp[jF.own,h]))
def jF.At.lt(h:s.At w){k:Nat}(a:s.own k):k<w.heap.size:=h.r.lt k (by rcases a with h|h|h<;>rw[h]<;>simp)
structure dP(w:World)(kb room:Nat)(pv:Value)(dr ab:Nat)(nb:List Nat)(A:Nat->Nat)(ps:List iJ):Prop where
 blk:aC w kb #[I room,pv,I dr,.map (some ab)] 184
 row:w.ownsRow 0 225 5 pv ps.length (dH ps)
 ack:∃N,dB prog 3 w ab N (am nb A)
 st:∀p∈ps,p.st.At w
 r50:room<=50
 len:ps.length<=room
 bnd:(∀p∈ps,p.mark<=100000/\p.fr<=5)/\dr<=100000/\∀j,A j<=100000
 ZJ:∀j∈nb,j<=5
 apart:∀p∈ps,¬p.st.own ab
def Jd(kb:Nat)(pv:Value)(ab:Nat)(ps:List iJ)(k:Nat):Prop:=k=kb\/pv.ownBlock=some k\/k=ab\/∃p∈ps,p.st.own k
def uQ{M:Nat->Prop}{B:Nat}{e:TypeId}{n size:Nat}{xs:List Value}(i:w.ownsRow B e size v n xs)(l:aA M w w')(m:∀k,v.ownBlock=some k->¬M k):w'.ownsRow B e size v n xs:=by
 obtain⟨c,j|⟨g,cap,h,a,d,b,f⟩⟩:=i
 .exact⟨c,τ j⟩
 .refine⟨c,υ ⟨g,cap,h,a,d, ?_,f⟩⟩;rw[l.block g (by have:=Array.getElem?_eq_some_iff.1 b;exact this.1) (m g (by rw[a];rfl))];exact b
section
variable{w w':World}{kb room:Nat}{pv:Value}{dr ab:Nat}{nb:List Nat}{A:Nat->Nat}{ps:List iJ}
def dP.aJ{M:Nat->Prop}(h:dP w kb room pv dr ab nb A ps)(a:aA M w w')(b:∀k,Jd kb pv ab ps k->¬M k):dP w' kb room pv dr ab nb A ps :=
 ⟨h.blk.aJ a (b kb (τ rfl)),uQ h.row a (λk c=>b k (υ (τ c))),h.ack.imp λN g=>g.block (a.block _ g.lt (b ab (υ (υ (τ rfl))))),λp d=>(h.st p d).ZI a (λk c=>b k (υ (υ (υ ⟨p,d,c⟩)))),h.r50,h.len,h.bnd,h.ZJ,h.apart⟩
def dP.below(h:dP w kb room pv dr ab nb A ps)(a:Below w.heap.size w w'):dP w' kb room pv dr ab nb A ps:=h.aJ (M:=λ_=>False) (aA.of_below a) (λ_ _ h=>h)
def dP.lt(h:dP w kb room pv dr ab nb A ps){k:Nat}(a:Jd kb pv ab ps k):k<w.heap.size:=by
 rcases a with rfl|a|rfl|⟨p,b,a⟩
 .exact h.blk.lt
 .exact(h.row.lt k a).2
 .obtain⟨N,g⟩:=h.ack;exact g.lt
 .exact(h.st p b).lt a
def dP.ne(h:dP w kb room pv dr ab nb A ps):kb≠ab/\pv.ownBlock≠some kb/\pv.ownBlock≠some ab:=by
 obtain⟨N,g⟩:=h.ack;refine⟨λe=>?_,ownsRow_ne h.row (λa b e=>?_),ownsRow_ne h.row (λa b e=>g.l7 e)⟩
 .subst e;exact g.l7 (show w.heap[kb]?=_ from h.blk)
 .have:=h.blk;unfold aC at this;rw[this]at e;cases e
def dP.shape(h:dP w kb room pv dr ab nb A ps):∃b cap,pv=.slice b ps.length cap:=by
 rcases h.row.2 with⟨a,c⟩|⟨g,cap,d,a,_⟩
 .exact⟨none,0,by rw[a,c]⟩
 .exact⟨_,cap,a⟩
def jF.At.gV{s:jF}(h:s.At w){k:Nat}(a:s.own k){cs:Array Value}{t:TypeId}{b:Nat×Nat}:w.heap[k]?≠some (.cells cs t b):=by
 obtain⟨⟨o,L,⟨⟨i,d⟩,⟨j,e⟩,_⟩,_⟩,⟨l,f⟩,_⟩:=h.r;have key:∀{P:Program}{c:TypeId}{v:Option Nat}{N:Nat}{m:Value->Option Value},dQ P c w (.map v) N m->v=some k->w.heap[k]?≠some (.cells cs t b):=λ{P c v N m}hm hv=>by
  subst hv;rcases hm with⟨h,_⟩|⟨n,h,g⟩
  .cases h
  .cases h;exact g.l7
 rcases a with a|a|a
 .exact key f a
 .exact key d a
 .exact key e a
def LU(h:dP w kb room pv dr ab nb A ps):Calls prog 117 #[.pointer (some (z kb))] w λe w'=>e=.returned (I ps.length)/\w'=w:=by obtain⟨b,cap,a⟩:=h.shape;subst a;have c:=(h.blk.cell 1).trans rfl;clear h;go_enter func117,ntmps117;go_wp2;go_ret;exact⟨rfl,rfl⟩
end
def tH(w:World)(kb room:Nat)(pv:Value)(dr ab:Nat)(nb:List Nat)(A:Nat->Nat)(p:iJ)(ps:List iJ)(a:aC w kb #[I room,pv,I dr,.map (some ab)] 184)(b:w.ownsRow 0 225 5 pv (ps.length+1) (dH (p::ps)))(E:ps.length<=1000)(M:p.mark<=100000):Calls prog 205 #[.pointer (some (z kb))] w λe w'=>e=.returned (.tuple #[])/\∃i,aC w' kb #[I room,i,I p.mark,.map (some ab)] 184/\w'.ownsRow 0 225 5 i ps.length (dH ps)/\i.ownBlock=pv.ownBlock/\aA (λk=>k=kb\/pv.ownBlock=some k) w w'/\w'.heap.size=w.heap.size:=by
 obtain⟨g,cap,F⟩:=dK b V;subst F;have h:g≠kb:=λe=>by subst e;refine ownsRow_ne b (k:=g) (λG H e=>?_) rfl;have m:=a;unfold aC at m;rw[m]at e;cases e
 have n:=(zG (p::ps) 0 Ω).1;have v:=b.cells (g:=g) rfl 0 _ (by simpa using n);rw[Addr.add_lit]at v;simp only[Nat.zero_add,List.getElem_cons_zero]at v;have P:=(a.cell 1).trans rfl;have Q:=(a.cell 2).trans rfl;have R:=a.frozen;have L:=a.lt;have K:(0:Int)<(ps.length:Int)+1:=V
 have l:J<|∀wx,wx=w.setCell (O kb 2) (I p.mark)->aC wx kb #[I room,.slice (some (z g)) (ps.length+1) cap,I p.mark,.map (some ab)] 184/\Calls prog 234 #[.slice (some (z g)) (ps.length+1) cap,I 0,I 1] wx λe w'=>e=.returned (.slice (some (z g)) ps.length cap)/\w'.ownsRow 0 225 5 (.slice (some (z g)) ps.length cap) ps.length (dH ps)/\aA (λk=>k=g) wx w'/\w'.heap.size=wx.heap.size:=λwx t=>by
  have D:aA (λk=>k=kb) w wx:=by rw[t];exact(aA.refl (λk=>k=kb) w).setCell (p:=(O kb 2)) rfl _
  refine⟨?_,PV wx 0 g cap p ps (uQ b D (λk f e=>by cases f;exact h e)) E⟩;rw[t];have:=a;unfold aC at this⊢;simp[World.setCell,μ,this]
 have B:J<|aA (λk=>k=kb\/k=g) w (w.setCell (O kb 2) (I p.mark)):=(aA.refl (λk=>k=kb\/k=g) w).setCell (p:=(O kb 2)) (τ rfl) _;have N:(w.setCell (O kb 2) (I p.mark)).heap.size=w.heap.size:=Ω
 clear b a n;go_enter func205,ntmps205;go_wp2_with fail;obtain⟨u,q⟩:=l.o _ rfl;generalize w.setCell (O kb 2) (I p.mark)=wx at *;refine ψ q ?_;rintro e c⟨rfl,r,j,s⟩;have d:=u.aJ j h.symm;have S:=(d.cell 1).trans rfl;have f2:=d.frozen;have C:=ω r;have y:=ω d;have x:J<|aA (λk=>k=g) wx c/\c.heap.size=wx.heap.size:=⟨j,s⟩;clear r d j s l q u;go_wp2_with fail;have o:aA (λk=>k=kb) c (c.setCell (O kb 1) (.slice (some (z g)) ps.length cap)):=(aA.refl (λk=>k=kb) c).setCell (p:=(O kb 1)) rfl _;refine bodyPost_end (results_none rfl _ _ _) rfl ⟨rfl,.slice (some (z g)) ps.length cap, ?_,uQ C.o o (λk f e=>by cases f;exact h e),rfl, ?_, ?_⟩
 .have:=y.o;unfold aC at this⊢;simp[World.setCell,μ,this]
 .exact((B.o.trans (x.o.1.mono (λk _ e=>υ e))).trans (o.mono (λk _ e=>τ e))).mono (λk _ e=>by rcases e with e|e;exact τ e;exact υ (by rw[e];rfl))
 .have:=x.o.2;simp;omega
def LV{ab N:Nat}(h:dB prog 3 w ab N (am nb A))(d:∀j∈nb,j<=5):N<=6 :=
 h.bound lU (λa:Nat=>I a) (λkey e=>by obtain⟨v,f⟩:=Option.isSome_iff_exists.1 e;obtain⟨a,b,_,c⟩:=tC f;exact⟨a,by have:=d a c;omega,b⟩)
def Xj{b:Nat}{a d e c u:Value}{t:TypeId}(h:aC w b #[a,d,e,c] t):aC ((w.setCell (O b 1) u).setCell (O b 2) v) b #[a,u,v,c] t:=by unfold aC at *;simp[World.setCell,μ,h]
def Xk(w:World)(kb room:Nat)(pv:Value)(dr ab:Nat)(nb:List Nat)(A:Nat->Nat)(ps:List iJ)(mark:Nat)(h:dP w kb room pv dr ab nb A ps)(hm:mark<=100000):Calls prog 171 #[.pointer (some (z kb)),.int .i64 mark] w λe w'=>e=.returned (.tuple #[])/\dP w' kb room (.slice none 0 0) mark ab nb (λ_=>0) []/\aA (λk=>k=kb\/k=ab) w w':=by
 obtain⟨N,n⟩:=h.ack;have ac:=LV n h.ZJ;have hr:=h.r50;have L:=ω h.ZJ;have a1:=h.ne.1;have a2:=n.lt;have Z:=h.blk.lt;obtain⟨ao,cap,hs⟩:=h.shape;have q1:=(h.blk.cell 1).trans rfl;have q2:=(h.blk.cell 2).trans rfl;have qf:=h.blk.frozen;have F:=Xj (u:=.slice none 0 0) (v:=.int .i64 mark) h.blk;have d:aA (λk=>k=kb) w ((w.setCell (O kb 1) (.slice none 0 0)).setCell (O kb 2) (.int .i64 mark)):=((aA.refl (λk=>k=kb) w).setCell (p:=(O kb 1)) rfl _).setCell (p:=(O kb 2)) rfl _;have X:=n.block (d.block _ a2 (λe=>a1 e.symm));rw[hs]at q1;clear h n hs;go_enter func171,ntmps171;have q3:((w.setCell (O kb 1) (.slice none 0 0)).setCell (O kb 2) (.int .i64 mark)).cell? (O kb 3)=some (.map (some ab)):=(F.cell 3).trans rfl;have Q:=ω F;have lS:=ω d;have R:=ω X;have T:J<|((w.setCell (O kb 1) (.slice none 0 0)).setCell (O kb 2) (.int .i64 mark)).heap.size=w.heap.size:=ω<|Ω
 clear F d X;go_wp2_with (first|(at_range;refine IB rfl (.tmp 15) 96 rfl 3 lU underlying96 rfl R.o ?_;intro H E B a8;have W:(∃(left:Value->Prop)(q:Nat)(a:Nat->Nat),N=q/\dY prog 3 H ab w.heap.size N (am nb a) left q/\aC H kb #[.int .i64 room,.slice none 0 0,.int .i64 mark,.map (some ab)] 184/\aA (λk=>k=kb\/k=ab) w H/\(∀j∈nb,a j=0\/left (.int .i64 j))):=(by rw[T.o]at E;exact⟨_,N,A,rfl,E,Q.o.aJ ((aA.refl (λ_=>False) _).grown B (λk e=>by cases e)) (λh=>h),(lS.o.mono (λk _ e=>τ e)).grown B (λk e=>by cases e),λj i=>υ (by rw[wo,ώ i];rfl)⟩);rw[T.o];clear R Q lS E B a8 q1 q2 qf q3;go_frame));go_loopg [4] N (λg v4 K=>∃(left:Value->Prop)(q:Nat)(a:Nat->Nat),g=q/\dY prog 3 K ab w.heap.size N (am nb a) left q/\aC K kb #[.int .i64 room,.slice none 0 0,.int .i64 mark,.map (some ab)] 184/\aA (λk=>k=kb\/k=ab) w K/\(∀j∈nb,a j=0\/left (.int .i64 j)));case atStart=>exact W
 case round =>
  obtain⟨left,q,a,hq,y,Y,d,U⟩:=hrel;have o:=ω y;have f:J<|aC wr kb #[.int .i64 room,.slice none 0 0,.int .i64 mark,.map (some ab)] 184/\aA (λk=>k=kb\/k=ab) w wr:=⟨Y,d⟩;have M:=ω U;have G:J<|∀key v,left key->am nb a key=some v->∃x:Nat,key=(λx:Nat=>Value.int .i64 x) x/\v=(λx:Nat=>Value.int .i64 (a x)) x:=λkey v _ D=>by obtain⟨x,s,aj,_⟩:=tC D;exact⟨x,s,aj⟩
  have ah:=y.lt;clear y Y d U W;go_wp2_with (first|(at_next;refine Ac rfl (.tmp 16) rfl lU (λx:Nat=>.int .i64 x) (λx:Nat=>.int .i64 (a x)) rfl o.o G.o ?_ ?_))
  .intro ad a4;have HF:=ω<|λj i=>(M.o j i).elim id (λh=>absurd h (a4 _))
   clear G;go_wp2_with fail;have he:am nb a=am nb (λ_=>0):=Jc (λai=>by
    rw[wo];by_cases c:ai∈nb
    .rw[ώ c,ώ c,HF.o ai c]
    .rw[ύ c,ύ c]) (λkey D=>by unfold am;rw[dif_neg (λ⟨b,hb⟩=>D b hb)])
   refine bodyPost_end (results_none rfl _ _ _) rfl ⟨rfl,⟨f.o.1,ϑj _ _ _ _,⟨N,by rw[<- he];exact o.o.map⟩,λp l=>(by simp at l),hr,Ω,⟨λp l=>(by simp at l),hm,λ_=>V⟩,L.o,λp l=>(by simp at l)⟩,f.o.2⟩
  .intro ai w4 q' a5 a0 lV af C ag ae;have c:ai∈nb:=by obtain⟨x,s,_,aj⟩:=tC a0;simp at s;exact(show ai=x from V)▸aj
   have t:aC w4 kb #[.int .i64 room,.slice none 0 0,.int .i64 mark,.map (some ab)] 184:=f.o.1.grown C V;have tJ:J<|aA (λk=>k=kb\/k=ab) w w4:=f.o.2.grown C (λk e=>by cases e;exact υ (χ _));have P:=ω t;have z3:=(t.cell 3).trans rfl;obtain⟨kl,Z⟩:∃kl,keyOf prog 3 (.int .i64 ai)=some kl:=⟨_,wO ai (by have:=L.o ai c;omega)⟩;have a3:(am nb a (.int .i64 ai)).isSome=true:=by rw[wo,ώ c];(first|done|rfl)
   have a6:N<maxLen:=by unfold maxLen;omega
   have S:=ω lV;clear lV C o f G a0 a5 t;go_wp2_with (first|(at_mapUpdate;refine wS rfl (.tmp 24) (.tmp 25) (.const (.int .i64 0)) 96 rfl 3 lU underlying96 rfl S.o a6 (.int .i64 ai) (.int .i64 0) _ rfl rfl Z a3 ?_;intro w6 a7 r a9;have NK:=P.o.grown r a1;have qL:=tJ.o.grown r (λk e=>by cases e;exact τ (υ rfl));have aa:=Gu (A:=a) (m:=0) c;clear S P tJ r a9;go_frame));go_roundg q';case measure=>omega
   case rel =>
    refine⟨_,q',(λx=>if x=ai then 0 else a x),rfl,by rw[<- aa];exact a7,NK,qL,λj i=>?_⟩;by_cases e:j=ai
    .exact τ (ώ e)
    .rcases M.o j i with h|h
     .exact τ ((ύ e).trans h)
     .exact υ ⟨h,λaj=>e (by simp at aj;omega)⟩
def lg(w:World)(v:Value)(ns:List Nat):Prop:=(v=.slice none 0 0/\ns=[])\/∃b off cap,v=.slice (some (O b off)) ns.length cap/\ns.length<=cap/\b<w.heap.size/\∀j(h:j<ns.length),w.cell? (O b (off+j))=some (I (ns[j]))
def lg.below(h:lg w v ns)(c:Below w.heap.size w w'):lg w' v ns:=by
 rcases h with h|⟨b,d,cap,e,f,a,g⟩
 .exact τ h
 .exact υ ⟨b,d,cap,e,f,ο a c.size,λj i=>(c.cell (p:=(O b (d+j))) a).trans (g j i)⟩
def lg.shape(h:lg w v ns):∃a cap,v=.slice a ns.length cap:=by
 rcases h with⟨rfl,rfl⟩|⟨b,c,cap,rfl,_⟩
 .exact⟨none,0,rfl⟩
 .exact⟨_,cap,rfl⟩
def lg.at{c:Option Addr}{n:Nat}(h:lg w (.slice c n cap) ns)(i:Nat)(e:i<ns.length):∃b a,c=some (O b a)/\n<=cap/\w.cell? (O b (a+i))=some (I (ns[i])):=by
 rcases h with⟨_,rfl⟩|⟨b,a,j,d,f,k,g⟩
 .simp at e
 .simp only[ϑa]at d;obtain⟨rfl,rfl,rfl⟩:=d;exact⟨b,a,rfl,f,g i e⟩
def Xl(w:World)(room:Nat)(M:Value)(nb:List Nat)(u:lg w M nb)(Y:room<=50)(F:∀j∈nb,j<=5)(hl:nb.length<=6):Calls prog 64 #[.int .i64 room,M] w λe w'=>∃kb ab,e=.returned (.pointer (some (z kb)))/\dP w' kb room (.slice none 0 0) 0 ab nb (λ_=>0) []/\w.heap.size<=kb/\w.heap.size<=ab/\Below w.heap.size w w':=by
 have a7:=@run_makeMap prog;obtain⟨ao,cap,Z⟩:=u.shape;subst Z;have P:=ω u;have B:=ω F;clear u F;go_enter func64,ntmps64;go_wp2_with fail;have G:Below w.heap.size w ((w.alloc (.map #[] 0)).alloc (.cells #[.int .i64 room,.slice none 0 0,.int .i64 0,.map (some w.heap.size)] 184)):=((φ _ w).alloc (χ _) _).alloc Ω _;have H:aC ((w.alloc (.map #[] 0)).alloc (.cells #[.int .i64 room,.slice none 0 0,.int .i64 0,.map (some w.heap.size)] 184)) (w.heap.size+1) #[.int .i64 room,.slice none 0 0,.int .i64 0,.map (some w.heap.size)] 184:=by have:=aC.new (w.alloc (.map #[] 0)) #[.int .i64 room,.slice none 0 0,.int .i64 0,.map (some w.heap.size)] 184;rwa [ϊ]at this
 have K:dB prog 3 ((w.alloc (.map #[] 0)).alloc (.cells #[.int .i64 room,.slice none 0 0,.int .i64 0,.map (some w.heap.size)] 184)) w.heap.size 0 (am [] (λ_=>0)):=by rw[ai5];exact(dB.made w prog 3).block (((φ _ (w.alloc (.map #[] 0))).alloc (χ _) _).block _ Ω)
 generalize ((w.alloc (.map #[] 0)).alloc (.cells #[.int .i64 room,.slice none 0 0,.int .i64 0,.map (some w.heap.size)] 184))=v at *;have f:J<|Below w.heap.size w v/\aC v (w.heap.size+1) #[.int .i64 room,.slice none 0 0,.int .i64 0,.map (some w.heap.size)] 184/\dB prog 3 v w.heap.size 0 (am [] (λ_=>0)):=⟨G,H,K⟩;clear G H K;go_loopg [7,14] nb.length (λS v7 a3 x=>∃i N:Nat,i+S=nb.length/\a3=.int .i64 i/\Below w.heap.size w x/\aC x (w.heap.size+1) #[.int .i64 room,.slice none 0 0,.int .i64 0,.map (some w.heap.size)] 184/\(∃l,dB prog 3 x w.heap.size N (am l (λ_=>0))/\(∀j,j∈l↔j∈nb.take i))/\N<=i);case atStart=>exact⟨0,0,V,rfl,f.o.1,f.o.2.1,⟨[],f.o.2.2,Ω⟩,χ _⟩
 case round =>
  obtain⟨i,N,a6,rfl,a,b,⟨l,q,s⟩,a4⟩:=hrel;clear f;have d:=ω a;have a9:=ω b;have m:=ω q;have C:=ω s;by_cases r:i<nb.length
  .obtain⟨E,a8,rfl,a5,q0⟩:=(P.o.below a).at i r;obtain⟨n,h⟩:∃n,n=nb[i]:=⟨_,rfl⟩;rw[<- h]at q0;have Kr:n<=5:=B.o n (by rw[h];exact κ r);have Q:=ω h;clear h;have z3:=(b.cell 3).trans rfl;obtain⟨kl,W⟩:∃kl,keyOf prog 3 (.int .i64 n)=some kl:=⟨_,wO n V⟩;have X:N<maxLen:=by unfold maxLen;omega
   clear a b q s;go_wp2_with (first|(at_mapUpdate;refine iM rfl (.tmp 21) (.tmp 22) (.const (.int .i64 0)) 96 rfl 3 lU underlying96 rfl m.o X (.int .i64 n) (.int .i64 0) _ rfl rfl W ?_;intro w6 A o a0;have R:=d.o.grown o d.o.size (λk e=>by cases e;exact χ _);have T:=a9.o.grown o V;have a2:=Xi l (λ_=>0) n 0;clear m d a9 o a0;go_frame));go_roundg (nb.length-(i+1));case measure=>omega
   case rel =>
    refine⟨i+1,_,V,Λ,R,T,⟨_,by rw[show(Value.int IntKind.i64 0)=.int .i64 ((0:Nat):Int)from rfl,a2,show(λy=>if y=n then 0 else(λ_:Nat=>(0:Nat)) y)=λ_=>0 from funext λy=>by split<;>rfl]at A;exact A,λj=>?_⟩,by split<;>omega⟩;rw[ν r,<- Q.o,θ,ϑe,<- C.o j];by_cases t:n∈l
    .rw[ώ t];exact⟨τ,λp=>p.elim id (λe=>e▸t)⟩
    .rw[ύ t,θ,ϑe]
  .have a1:nb.take i=nb:=ϑg V;clear a b q s;go_wp2_with fail;go_ret;have U:am l (λ_=>0)=am nb (λ_=>0):=Jc (λD=>by
    rw[wo];have:=C.o D;rw[a1]at this;by_cases g:D∈nb
    .rw[ώ g,ώ (this.2 g)]
    .rw[ύ g,ύ (λp=>g (this.1 p))]) (λkey b=>by unfold am;rw[dif_neg (λ⟨E,a⟩=>b E a)])
   exact⟨w.heap.size+1,w.heap.size,rfl,⟨a9.o,ϑj _ _ _ _,⟨N,by rw[<- U];exact m.o⟩,λL c=>(by simp at c),Y,Ω,⟨λL c=>(by simp at c),V,λ_=>V⟩,B.o,λL c=>(by simp at c)⟩,V,χ _,d.o⟩
def Xm(w:World)(kb room:Nat)(pv:Value)(dr ab:Nat)(nb:List Nat)(A:Nat->Nat)(ps:List iJ)(j mark:Nat)(h:dP w kb room pv dr ab nb A ps)(G:mark<=100000)(f:j∈nb):Calls prog 163 #[.pointer (some (z kb)),I j,I mark] w λe w'=>e=.returned (.tuple #[])/\dP w' kb room pv dr ab nb (λx=>if x=j then max (A j) mark else A x) ps/\aA (λk=>k=ab) w w':=by
 obtain⟨N,c⟩:=h.ack;have C:=LV c h.ZJ;have H:w.drew.cell? (O kb 3)=some (.map (some ab)):=(h.blk.cell 3).trans rfl;have E:=h.ZJ j f;have n:=wO j V;have d:dB prog 3 w.drew ab N (am nb A):=c;have F:(Instr.lookup 96 (.map (some ab)) (I j) false).run prog w.drew=.ok (I (A j)) w.drew:=by have:=d.look lU underlying96 (OA _) n;rw[wo,ώ f]at this;exact this
 obtain⟨w1,r,b,m,u⟩:=d.store lU underlying96 (by unfold maxLen;omega) (I ((max (A j) mark:Nat):Int)) n;have a:aA (λk=>k=ab) w w1:=(aA.of_below (φ _ w).drew).trans ((aA.refl _ w.drew).grown m (λk e=>by cases e;exact τ rfl));rw[Gu f]at b;have p:=h.ne;have i:J<|dP w1 kb room pv dr ab nb (λx=>if x=j then max (A j) mark else A x) ps/\aA (λk=>k=ab) w w1:=⟨⟨h.blk.aJ a p.1,uQ h.row a (λk g e=>p.2.2 (by rw[g,e])),⟨_,b⟩,λs q=>(h.st s q).ZI a (λk g e=>h.apart s q (e▸g)),h.r50,h.len,⟨h.bnd.1,h.bnd.2.1,λx=>by
  have y:=h.bnd.2.2 j;have t:=h.bnd.2.2 x;by_cases e:x=j
  .simp only[ώ e];omega
  .simp only[ύ e];exact t⟩,h.ZJ,h.apart⟩,a⟩
 have D:=h.bnd.2.2 j;have o:((max (A j) mark:Nat):Int)=if A j<mark then(mark:Int) else(A j:Int):=by split<;>omega
 have l:((max (A j) mark:Nat):Int)=max (A j:Int) (mark:Int):=V
 have v:=r;rw[l]at v;rw[o]at r;clear o l;generalize A j=B at *;clear h c d b m u a;go_enter func163,ntmps163;go_wp2_with fail
 go_region
 all_goals go_wp2_with fail
 all_goals exact bodyPost_end (results_none rfl _ _ _) rfl ⟨rfl,i.o.1,i.o.2⟩
def vG(room dr:Nat)(ps:List iJ)(p:iJ):Nat:=if room<ps.length+1 then((ps++[p]).headD p).mark else dr
def qU(room:Nat)(ps:List iJ)(p:iJ):List iJ:=if room<ps.length+1 then(ps++[p]).tail else ps++[p]
def Xn(w:World)(kb room:Nat)(pv:Value)(dr ab:Nat)(nb:List Nat)(A:Nat->Nat)(ps:List iJ)(p:iJ)(h:dP w kb room pv dr ab nb A ps)(hp:p.st.At w)(al:¬p.st.own ab)(hm:p.mark<=100000/\p.fr<=5):Calls prog 145 #[.pointer (some (z kb)),.agg #[.map p.st.io,.map p.st.co,.map p.st.lo],I p.fr,I p.mark] w λe w'=>e=.returned (.tuple #[])/\∃a0,dP w' kb room a0 (vG room dr ps p) ab nb A (qU room ps p)/\(a0.ownBlock=pv.ownBlock\/∃k,a0.ownBlock=some k/\w.heap.size<=k)/\aA (λk=>k=kb\/pv.ownBlock=some k) w w':=by
 obtain⟨i0,hi,ap,aq,ar⟩:=info_parts Tryz.infoPc;obtain⟨f,cap,L⟩:=h.shape;have d:=ω h;have HP:=ω hp;have K:=h.ne;have az:=h.blk.lt;have b0:=h.len;have af:=h.r50;have kz:=λB=>h.blk.alloc B;have P:=aC.new w #[.map p.st.io,.map p.st.co,.map p.st.lo] 101;have U:Below w.heap.size w (w.alloc (.cells #[.map p.st.io,.map p.st.co,.map p.st.lo] 101)):=(φ _ w).alloc (χ _) _;clear h hp;go_enter func145,ntmps145;go_wp2_with fail;have Z:=kz (.cells #[.map p.st.io,.map p.st.co,.map p.st.lo] 101);generalize w.alloc (.cells #[.map p.st.io,.map p.st.co,.map p.st.lo] 101)=w0 at *;subst L;have m1:J<|ps.length+1<=maxLen:=by unfold J maxLen;omega
 have m2:J<|(ps.length+1)*40<=140737488355328:=ω V
 have ak:J<|∀u∈p.cells,u.oneCell'=true:=by intro u hu;simp[iJ.cells]at hu;rcases hu with rfl|rfl|rfl|rfl|rfl<;>rfl
 have a6:=d.o.below U;have zH:=ω a6.row;have C:=ω Z;have q1:=(Z.cell 1).trans rfl;have s0:=(P.cell 0).trans rfl;have s1:=(P.cell 1).trans rfl;have s2:=(P.cell 2).trans rfl;have av:∀B,(w0.alloc B).cell? (O kb 1)=some (.slice f ps.length cap):=λB=>((C.o.alloc B).cell 1).trans rfl;have a1:=ω U;clear Z kz P U a6;go_cut []from 8 to 20 (λwx=>∃w6 b2 b,wx=w6.setCell (O kb 1) (.slice (some (z b2)) (ps.length+1) b)/\aA (λk=>(Value.slice f ps.length cap).ownBlock=some k) w0 w6/\w6.ownsRow 0 225 5 (.slice (some (z b2)) (ps.length+1) b) (ps.length+1) (dH ps++p.cells)/\((Value.slice f ps.length cap).ownBlock=some b2\/w.heap.size<=b2))
 case first =>
  go_region_law (first|(refine iU rfl (.tmp 12) (.tmp 17) 182 rfl 225 i0 (.agg #[I 0,I 0,.map none,.map none,.map none]) 5 40 underlying182 hi ap aq ar rfl Ψ (.slice f ps.length cap) ps.length (dH ps) rfl ?_ _ 1 1 p.cells rfl rfl ?_ ak.o m1.o m2.o (Nat.succ_pos _) ?_;(exact zH.o.alloc _);(intro j u b3;match j,b3 with|0,b3=>(cases b3;simp[Addr.add])|1,b3=>(cases b3;simp[Addr.add])|2,b3=>(cases b3;simp[Addr.add])|3,b3=>(cases b3;simp[Addr.add])|4,b3=>(cases b3;simp[Addr.add]));intro b2 b w6 x eG S;have r:aA (λk=>(Value.slice f ps.length cap).ownBlock=some k) w0 w6:=aA.grown (aA.of_below Γ) eG (λk i=>τ i);have o:=C.o.aJ r K.2.1;have k1:=(o.cell 1).trans rfl;have b1:=o.frozen))
  all_goals
   go_wp2_with fail;go_meet;refine⟨w6,b2,b,rfl,r,x, ?_⟩;rcases S with h|h
   .exact τ h
   .refine υ (ς a1.o.size ?_);simp at h;omega
 case rest =>
 obtain⟨w6,b2,b,rfl,r,x,S⟩:=hcut;have o:=C.o.aJ r K.2.1;have ai:b2≠kb:=λe=>by subst e;refine ownsRow_ne x (k:=b2) (λag fz e=>?_) rfl;have v:=o;unfold aC at v;rw[v]at e;cases e
 have Y:aA (λk=>k=kb) w6 (w6.setCell (O kb 1) (.slice (some (z b2)) (ps.length+1) b)):=(aA.refl (λk=>k=kb) w6).setCell (p:=(O kb 1)) rfl _;have Q:aC (w6.setCell (O kb 1) (.slice (some (z b2)) (ps.length+1) b)) kb #[I room,.slice (some (z b2)) (ps.length+1) b,I dr,.map (some ab)] 184:=by have:=o;unfold aC at this⊢;simp[World.setCell,μ,this]
 have a9:(w6.setCell (O kb 1) (.slice (some (z b2)) (ps.length+1) b)).ownsRow 0 225 5 (.slice (some (z b2)) (ps.length+1) b) (ps.length+1) (dH (ps++[p])):=by rw[LQ];exact uQ x Y (λk i e=>by cases i;exact ai e)
 have a3:=((aA.of_below a1.o).trans' (r.mono (N:=λk=>k=kb\/(Value.slice f ps.length cap).ownBlock=some k) (λk _ e=>υ e)) (λk _ e=>e)).trans' Y (λk _ e=>τ e);clear o Y x r q1 av s0 s1 s2 zH C;generalize w6.setCell (O kb 1) (.slice (some (z b2)) (ps.length+1) b)=W at *;have a4:J<|∀(t:World)(R:Value)(E:Nat)(n:List iJ),aC t kb #[I room,R,I E,.map (some ab)] 184->t.ownsRow 0 225 5 R n.length (dH n)->aA (λk=>k=kb\/(Value.slice f ps.length cap).ownBlock=some k) w t->n.length<=room->(∀q∈n,q∈ps++[p])->E<=100000->dP t kb room R E ab nb A n:=λt R E n b6 v F h4 h5 h6=>by
  have aj:∀(k:Nat)(s:jF),s.At w->s.own k->¬(k=kb\/(Value.slice f ps.length cap).ownBlock=some k):=λk s L i e=>by
   rcases e with rfl|e
   .exact L.gV i d.o.blk
   .obtain⟨_,⟨b6,_⟩|⟨g',ax,ag,b6,v,F,_⟩⟩:=d.o.row
    .rw[b6]at e;cases e
    .rw[b6]at e;cases e;exact L.gV i F
  have H:∀q∈n,q.st.At w/\(q.mark<=100000/\q.fr<=5)/\¬q.st.own ab:=λq c=>by
   rcases θ.1 (h5 q c)with h|h
   .exact⟨d.o.st q h,d.o.bnd.1 q h,d.o.apart q h⟩
   .rw[ϑe]at h;subst h;exact⟨HP.o,hm,al⟩
  refine⟨b6,v,d.o.ack.imp λN g=>g.block (F.block _ g.lt (λe=>by rcases e with e|e;exact K.1 e.symm;exact K.2.2 e)),λq c=>(H q c).1.ZI F (λk i=>aj k _ (H q c).1 i),af,h4,⟨λq c=>(H q c).2.1,h6,d.o.bnd.2.2⟩,d.o.ZJ,λq c=>(H q c).2.2⟩
 have m:J<|aC W kb #[I room,.slice (some (z b2)) (ps.length+1) b,I dr,.map (some ab)] 184/\W.ownsRow 0 225 5 (.slice (some (z b2)) (ps.length+1) b) (ps.length+1) (dH (ps++[p]))/\aA (λk=>k=kb\/(Value.slice f ps.length cap).ownBlock=some k) w W:=⟨Q,a9,a3⟩;have ae:=ω d.o.bnd.2.1;have T:=ω S;have e0:W.drew.cell? (z kb)=some (I room):=(Q.cell 0).trans rfl;have e1:W.drew.cell? (O kb 1)=some (.slice (some (z b2)) (ps.length+1) b):=(Q.cell 1).trans rfl;clear Q a9 a3 S;by_cases G:room<ps.length+1
 .have ah:decide ((ps.length:Int)+1 > (room:Int))=true:=Θ
  obtain⟨b4,rest,y⟩:∃b4 rest,ps++[p]=b4::rest:=by cases ps with
   | nil=>exact⟨p,[],rfl⟩
   | cons a l=>exact⟨a,l++[p],rfl⟩
  have an:rest.length=ps.length:=by have:=congrArg List.length y;simp at this;omega
  have a8:b4∈ps++[p]:=by rw[y];simp
  have a7:b4.mark<=100000:=by
   rcases θ.1 a8 with h|h
   .exact(d.o.bnd.1 b4 h).1
   .rw[ϑe]at h;subst h;exact hm.1
  have HD:J<|_:=tH W.drew kb room (.slice (some (z b2)) (ps.length+1) b) dr ab nb A b4 rest m.o.1 (by rw[an,<- y];exact m.o.2.1) V a7;have a2:=ω y;clear y a8;go_wp2_with fail
  go_region
  go_wp2_with fail;refine ψ HD.o ?_;rintro e w3⟨rfl,D,aa,ad,ac,a5,aw⟩;have X:=m.o.2.2.trans' (aA.trans (aA.of_below (φ _ W).drew) a5) (λk i e=>by
   rcases e with e|e
   .exact τ e
   .have e':b2=k:=by simpa[Value.ownBlock]using e
    rcases T.o with h|h
    .exact υ (by rw[h,e'])
    .omega)
  have hF:=a4.o w3 D b4.mark rest aa ad X V (λq c=>by rw[a2.o];simp[c]) a7;have b5:J<|dP w3 kb room D b4.mark ab nb A rest/\aA (λk=>k=kb\/(Value.slice f ps.length cap).ownBlock=some k) w w3/\D.ownBlock=some b2:=⟨hF,X,ac⟩;clear hF X ac aa ad a5 aw HD;go_wp2_with fail;refine bodyPost_end (results_none rfl _ _ _) rfl ⟨rfl,D, ?_, ?_,b5.o.2.1⟩
  .unfold vG qU;rw[ώ G,ώ G,a2.o];exact b5.o.1
  .rcases T.o with h|h
   .exact τ (by rw[b5.o.2.2,h])
   .exact υ ⟨b2,b5.o.2.2,h⟩
 .have ah:decide ((ps.length:Int)+1 > (room:Int))=false:=Θ
  have hF:=a4.o W.drew _ dr (ps++[p]) m.o.1 (by rw[ρ];exact m.o.2.1) (aA.trans' m.o.2.2 (aA.of_below (M:=λ_=>False) (φ _ W).drew) (λ_ _ h=>h.elim)) Θ (λq c=>c) ae.o;have b5:J<|dP W.drew kb room (.slice (some (z b2)) (ps.length+1) b) dr ab nb A (ps++[p])/\aA (λk=>k=kb\/(Value.slice f ps.length cap).ownBlock=some k) w W.drew:=⟨hF,aA.trans' m.o.2.2 (aA.of_below (M:=λ_=>False) (φ _ W).drew) (λ_ _ h=>h.elim)⟩;clear hF;go_wp2_with fail
  go_region
  go_wp2_with fail;refine bodyPost_end (results_none rfl _ _ _) rfl ⟨rfl,.slice (some (z b2)) (ps.length+1) b, ?_, ?_,b5.o.2⟩
  .unfold vG qU;rw[ύ G,ύ G];exact b5.o.1
  .rcases T.o with h|h
   .exact τ h.symm
   .exact υ ⟨b2,rfl,h⟩
def fQ(bF:List jF):List Value:=bF.flatMap λs=>[.map s.io,.map s.co,.map s.lo]
def Ap(a:List jF)(s:jF):fQ (a++[s])=fQ a++[.map s.io,.map s.co,.map s.lo]:=by simp[fQ]
def DK(a:List jF):(fQ a).length=a.length*3:=by
 induction a with
 | nil=>rfl
 | cons s r b=>simp[fQ]at b⊢;omega
def uS(a:List jF):∀(i:Nat)(h:i<a.length),(fQ a)[i*3]?=some (.map a[i].io)/\(fQ a)[i*3+1]?=some (.map a[i].co)/\(fQ a)[i*3+2]?=some (.map a[i].lo):=by
 induction a with
 | nil=>intro i h;simp at h
 | cons s r ih =>
  intro i h;have c:fQ (s::r)=[.map s.io,.map s.co,.map s.lo]++fQ r:=rfl;rw[c];cases i with
  | zero=>simp
  | succ i =>
   have e:∀k,([Value.map s.io,.map s.co,.map s.lo]++fQ r)[(i+1)*3+k]?=(fQ r)[i*3+k]?:=λk=>by rw[ϋ Θ];congr 1;simp;omega
   have:=ih i (by simpa using h);have b:=e 0;rw[Nat.add_zero,Nat.add_zero]at b;rw[b,e 1,e 2];simpa using this
def PW{B g:Nat}{bF:List jF}(h:w.ownsRow B 101 3 (.slice (some (z g)) bF.length cap) bF.length (fQ bF))(c:∀s∈bF,s.At w):jk w g 0 bF:=by
 have b:=h.cells (g:=g) rfl;refine⟨(h.lt g rfl).2,λj a=>?_,λj a=>?_,λj a=>?_,c⟩
 .have:=b _ _ (uS bF j a).1;rw[Addr.add_lit]at this;exact this
 .have:=b _ _ (uS bF j a).2.1;rw[Addr.add_lit]at this;simpa[Nat.add_assoc]using this
 .have:=b _ _ (uS bF j a).2.2;rw[Addr.add_lit]at this;simpa[Nat.add_assoc]using this
def Tryz.infoSt:(prog.info? 101).map (λi=>(i.zero,i.size,i.bytes))=some (some (.agg #[.map none,.map none,.map none]),3,24):=by kernel_rfl
def dJ(j h:Nat)(ps:List iJ):List jF:=(ps.filter λp=>decide (h<p.mark)&&decide (p.fr≠j)).map iJ.st
def PX(j h:Nat)(ps:List iJ)(p:iJ):dJ j h (ps++[p])=if h<p.mark/\p.fr≠j then dJ j h ps++[p.st]else dJ j h ps:=by
 unfold dJ;rw[ϑH,ϑF];by_cases a:h<p.mark/\p.fr≠j
 .rw[ώ a,List.filter_cons_of_pos (by simpa using a)];(first|done|rfl)
 .rw[ύ a,List.filter_cons_of_neg (by simpa using a)];simp
def Ue(j h:Nat)(ps:List iJ):(dJ j h ps).length<=ps.length:=by unfold dJ;rw[ϑh];exact List.length_filter_le _ _
def lq{j h:Nat}{ps:List iJ}(d:s∈dJ j h ps):∃p∈ps,p.st=s/\h<p.mark/\p.fr≠j:=by obtain⟨p,c,rfl⟩:=ι.1 d;obtain⟨b,a⟩:=ϑf.1 c;simp at a;exact⟨p,b,rfl,a.1,a.2⟩
def Xo(w:World):Calls prog 142 #[.slice none 0 0] w λm w'=>∃b a c,m=.returned (.agg #[.map (some b),.map (some a),.map (some c)])/\aP w' b a c (λ_=>False) (λ_=>none)/\(w.heap.size<=b/\w.heap.size<=a/\w.heap.size<=c)/\Below w.heap.size w w':=by
 go_enter func142,ntmps142;go_wp2_with fail;refine ψ (sF _ (.slice none 0 0) [] (τ ⟨rfl,rfl⟩) Ω Ω) ?_;rintro m w1⟨b,a,c,rfl,i,s,d⟩;have n:(w.alloc (.cells #[.map none,.map none,.map none] 101)).heap.size=w.heap.size+1:=Ω
 rw[n]at s d;have G:=i.lt;have g:Below w.heap.size w w1:=((φ _ w).alloc (χ _) _).trans (d.mono V);have h:aC w1 w.heap.size #[.map none,.map none,.map none] 101:=(d.block _ V).trans (heap_alloc_new w _);have e:=(φ _ w1).alloc (χ _) (.cells #[.map (some b),.map (some a),.map (some c)] 101);have l:J<|aP (w1.alloc (.cells #[.map (some b),.map (some a),.map (some c)] 101)) b a c (λ_=>False) (λ_=>none)/\Below w.heap.size w (w1.alloc (.cells #[.map (some b),.map (some a),.map (some c)] 101)):=by have j:=i.below e;exact⟨⟨j.ctx.iff (λt _=>Ω),j.its,j.ne,λt r=>absurd rfl r⟩,g.trans (e.mono g.size)⟩
 have f:=h.below e;have kb:=aC.new w1 #[.map (some b),.map (some a),.map (some c)] 101;have C:=h.lt;clear i d g h e;go_wp2_with fail;generalize w1.alloc (.cells #[.map (some b),.map (some a),.map (some c)] 101)=W at *;have D:=(kb.cell 0).trans rfl;have E:=(kb.cell 1).trans rfl;have F:=(kb.cell 2).trans rfl;have u:=(f.cell 0).trans rfl;have x:=(f.cell 1).trans rfl;have y:=(f.cell 2).trans rfl;have f0:=f.frozen;go_loopg [11] 0 (λo A B=>o=0/\A=I 0/\B=W);case atStart=>exact⟨rfl,rfl,rfl⟩
 case round =>
  obtain⟨_,rfl,rfl⟩:=hrel;go_wp2_with fail;have q:aA (λk=>k=w.heap.size) wr (((wr.setCell (z w.heap.size) (.map (some b))).setCell (O w.heap.size 1) (.map (some a))).setCell (O w.heap.size 2) (.map (some c))):=(((aA.refl (λk=>k=w.heap.size) wr).setCell (p:=(z w.heap.size)) rfl _).setCell (p:=(O w.heap.size 1)) rfl _).setCell (p:=(O w.heap.size 2)) rfl _;refine ϐ (v:=.agg #[.map (some b),.map (some a),.map (some c)]) (by simp[results,Tryz.results142,go_sem,u,x,y,bV,aT,World.cell?_setCell_other]) rfl ⟨b,a,c,rfl, ?_,V, ?_⟩
  .exact l.o.1.aJ q V V V
  .exact((l.o.2.setCell (p:=(z w.heap.size)) (χ _) _).setCell (p:=(O w.heap.size 1)) (χ _) _).setCell (p:=(O w.heap.size 2)) (χ _) _
def LW(w:World)(B:Nat)(v:Value)(a:List jF)(h:w.ownsRow B 101 3 v a.length (fQ a))(q:∀s∈a,s.At w)(p:a.length<=1000):Calls prog 142 #[v] w λi w'=>∃d b e f,i=.returned (.agg #[.map (some d),.map (some b),.map (some e)])/\aP w' d b e (λn=>∃s∈a,s.S n) f /\ (∀n v,f n=some v->(∃s∈a,s.It n=some v)/\¬dA a n)/\(∀n,(∃s∈a,s.It n≠none)->¬dA a n->f n≠none)/\(w.heap.size<=d/\w.heap.size<=b/\w.heap.size<=e)/\Below w.heap.size w w':=by
 have l:=h;obtain⟨_,⟨rfl,j⟩|⟨k,cap,r,rfl,j,t,m,_⟩⟩:=h
 .have:=List.length_eq_zero_iff.1 j;subst this;refine ψ (Xo w) ?_;rintro i w'⟨d,b,e,rfl,g,c,o⟩;refine⟨d,b,e,λ_=>none,rfl,⟨g.ctx.iff (λn _=>Ω),g.its,g.ne,λn c=>absurd rfl c⟩,λn v h=>(by cases h),λn c=>(by simp at c),c,o⟩
 .exact V9 w k 0 cap a (PW l q) m p
def Xp(w:World)(kb room:Nat)(pv:Value)(dr ab:Nat)(nb:List Nat)(A:Nat->Nat)(ps:List iJ)(j:Nat)(h:dP w kb room pv dr ab nb A ps)(hj:j∈nb):Calls prog 91 #[.pointer (some (z kb)),I j] w λC w'=>Below w.heap.size w w'/\((A j<dr/\C=.returned (.tuple #[.agg #[.map none,.map none,.map none],.bool false])) \/ (dr<=A j/\∃f e l d,C=.returned (.tuple #[.agg #[.map (some f),.map (some e),.map (some l)],.bool true])/\aP w' f e l (λn=>∃s∈dJ j (A j) ps,s.S n) d /\ (∀n v,d n=some v->(∃s∈dJ j (A j) ps,s.It n=some v)/\¬dA (dJ j (A j) ps) n)/\(∀n,(∃s∈dJ j (A j) ps,s.It n≠none)->¬dA (dJ j (A j) ps) n->d n≠none)/\(w.heap.size<=f/\w.heap.size<=e/\w.heap.size<=l))):=by
 obtain⟨i0,ak,av,aw,ax⟩:=info_parts Tryz.infoSt;obtain⟨N,R⟩:=h.ack;obtain⟨ao,cap,X⟩:=h.shape;have q1:=(h.blk.cell 1).trans rfl;have q2:=(h.blk.cell 2).trans rfl;have q3:=(h.blk.cell 3).trans rfl;have z1:∀o,(w.alloc o).cell? (O kb 1)=some pv:=λo=>((h.blk.alloc o).cell 1).trans rfl;have z2:∀o,(w.alloc o).cell? (O kb 2)=some (I dr):=λo=>((h.blk.alloc o).cell 2).trans rfl;have z3:∀o,(w.alloc o).cell? (O kb 3)=some (.map (some ab)):=λo=>((h.blk.alloc o).cell 3).trans rfl;have b5:=h.ZJ j hj;have a3:=wO j V;have b6:=ς h.len h.r50;have c:=h.bnd;have hu:(am nb A (I j)).getD (I 0)=I (A j):=by rw[wo,ώ hj];(first|done|rfl)
 have P:=ω<|λo=>R.block (((φ _ w).alloc (χ _) o).block _ R.lt)
 have HK:=ω h;have a8:=c.2.2 j;have b0:=c.2.1;obtain⟨aj,a0⟩:∃aj,A j=aj:=⟨_,rfl⟩;rw[a0]at hu a8;rw[a0];have ae:=ω c.1;clear h R c;subst X;by_cases hc:aj<dr
 .have T:(aj:Int)<(dr:Int):=V
  have ai:decide ((aj:Int)<(dr:Int))=true:=by simpa using T
  have q:=aC.new w #[.map none,.map none,.map none] 101;have r0:=(q.cell 0).trans rfl;have r1:=(q.cell 1).trans rfl;have r2:=(q.cell 2).trans rfl;have f0:=q.frozen;go_enter func91,ntmps91;go_wp2_with (first|(at_lookup;refine rX rfl (.tmp 13) (.tmp 14) 96 rfl 3 lU underlying96 (OA _) rfl (P.o _) (I j) _ rfl a3 _ hu ?_));exact ϐ (v:=.tuple #[.agg #[.map none,.map none,.map none],.bool false]) (by simp[results,Tryz.results91,go_sem,r0,r1,r2]) rfl ⟨(φ _ w).alloc (χ _) _,τ ⟨hc,rfl⟩⟩
 .have T:¬(aj:Int)<(dr:Int):=V
  have ai:decide ((aj:Int)<(dr:Int))=false:=by simpa using T
  have q:=aC.new w #[.map none,.map none,.map none] 101;have a1:Below w.heap.size w (w.alloc (.cells #[.map none,.map none,.map none] 101)):=(φ _ w).alloc (χ _) _;have Y:(w.alloc (.cells #[.map none,.map none,.map none] 101)).heap.size=w.heap.size+1:=Ω
  go_enter func91,ntmps91;go_wp2_with (first|(at_lookup;refine rX rfl (.tmp 13) (.tmp 14) 96 rfl 3 lU underlying96 (OA _) rfl (P.o _) (I j) _ rfl a3 _ hu ?_));clear z1 z2 z3 q1 q2 q3 P;generalize w.alloc (.cells #[.map none,.map none,.map none] 101)=a at *;have a7:=ω Y;have y:J<|Below w.heap.size w a/\aC a w.heap.size #[.map none,.map none,.map none] 101:=⟨a1,q⟩;clear Y a1 q;go_loopg [7,28] ps.length (λg v7 az wx=>∃i:Nat,i+g=ps.length/\az=I i/\Below a.heap.size a wx/\wx.ownsRow a.heap.size 101 3 v7 (dJ j aj (ps.take i)).length (fQ (dJ j aj (ps.take i))));case atStart=>exact⟨0,V,rfl,φ _ _,ϑj _ _ _ _⟩
  case round =>
   obtain⟨i,b4,rfl,c,b9⟩:=hrel;have x:=ω c;have F:=ω b9;have aq:∃B Xq,u7=.slice B (dJ j aj (ps.take i)).length Xq:=by
    rcases b9.2 with⟨b,h2⟩|⟨g,cp,aa,b,_⟩
    .exact⟨none,0,by rw[b,h2]⟩
    .exact⟨_,cp,b⟩
   obtain⟨B,Xq,rfl⟩:=aq;have an:(dJ j aj (ps.take i)).length<=50:=ς (Ue _ _ _) (by rw[List.length_take];omega);have H:=HK.o.below (y.o.1.trans (c.mono y.o.1.size));by_cases U:i<ps.length
   .have M:=H.row;obtain⟨g,cp,hg⟩:=dK M V;simp only[ϑa]at hg;obtain⟨rfl,_,rfl⟩:=hg;have b3:ps.length<=cap:=by
     obtain⟨_,⟨b,_⟩|⟨g',b1,aa,b,h2,h3,h4,_⟩⟩:=M
     .cases b
     .simp only[ϑa]at b;obtain⟨_,_,rfl⟩:=b;exact h4
    have b8:=zG ps i U;have r:=M.cells (g:=g) rfl;have c0:=r _ _ b8.1;have c1:=r _ _ b8.2.1;have c2:=r _ _ b8.2.2.1;have c3:=r _ _ b8.2.2.2.1;have c4:=r _ _ b8.2.2.2.2;simp only[Addr.add_lit,Nat.zero_add]at c0 c1 c2 c3 c4;have ap:=κ U;have b2:=ae.o _ ap;have Q:J<|dJ j aj (ps.take (i+1))=if aj<ps[i].mark/\ps[i].fr≠j then dJ j aj (ps.take i)++[ps[i].st]else dJ j aj (ps.take i):=ω<|by rw[ν U];exact PX _ _ _ _
    generalize ps[i]=p at *;generalize dJ j aj (ps.take i)=m at *;have kp:=aC.new wr #[I p.mark,I p.fr,.map p.st.io,.map p.st.co,.map p.st.lo] 225;have a9:Below wr.heap.size wr (wr.alloc (.cells #[I p.mark,I p.fr,.map p.st.io,.map p.st.co,.map p.st.lo] 225)):=(φ _ wr).alloc (χ _) _;have a2:=c.size;clear M r b8 H b9 c;by_cases L:aj<p.mark/\p.fr≠j
    .have hd1:decide ((p.mark:Int) > (aj:Int))=true:=Θ
     have hd2:(p.mark:Int) > (aj:Int):=V
     have hd3:¬((p.fr:Int)=(j:Int)):=V
     have t:((p.fr:Int) !=(j:Int))=true:=by simpa using hd3
     have HA:J<|∀(ob:Obj)(W:World),Below wr.heap.size wr W->(W.alloc ob).ownsRow a.heap.size 101 3 (.slice B m.length Xq) m.length (fQ m):=λob W hW=>(own_below F.o hW).alloc ob;have OT:J<|∀k u,([.map p.st.io,.map p.st.co,.map p.st.lo]:List Value)[k]?=some u->((wr.alloc (.cells #[I p.mark,I p.fr,.map p.st.io,.map p.st.co,.map p.st.lo] 225)).alloc (.cells #[.map p.st.io,.map p.st.co,.map p.st.lo] 101)).cell? (((z (wr.heap.size+1)):Addr).add k)=some u:=λk u hk=>by have kk:=aC.new (wr.alloc (.cells #[I p.mark,I p.fr,.map p.st.io,.map p.st.co,.map p.st.lo] 225)) #[.map p.st.io,.map p.st.co,.map p.st.lo] 101;rw[ϊ]at kk;rw[Addr.add_lit,kk.cell];simpa using hk
     have ac:m.length+1<=maxLen:=by unfold maxLen;omega
     have ad:(m.length+1)*24<=140737488355328:=V
     go_wp2_with (first|(at_builtin;refine wpList_append_own_at _ rfl (.tmp 42) (.tmp 45) 213 rfl a.heap.size 101 i0 (.agg #[.map none,.map none,.map none]) 3 24 underlying213 ak av aw ax rfl Ψ _ _ _ rfl (HA.o _ _ a9) (z (wr.heap.size+1)) 1 1 [.map p.st.io,.map p.st.co,.map p.st.lo] rfl rfl OT.o (by simp[Value.oneCell']) ac ad Θ ?_;intro v6 w6 kL eG ET yE));have K:Below a.heap.size a w6:=by have b:Below a.heap.size a ((wr.alloc (.cells #[I p.mark,I p.fr,.map p.st.io,.map p.st.co,.map p.st.lo] 225)).alloc (.cells #[.map p.st.io,.map p.st.co,.map p.st.lo] 101)):=(x.o.alloc a2 _).alloc Θ _;exact b.grown eG Θ (λk C=>(F.o.lt k C).1)
     go_roundg (ps.length-(i+1));case measure=>omega
     case rel =>refine⟨i+1,V,Λ,K, ?_⟩;rw[Q.o,ώ L,Ap,ρ];exact kL
    .have t:decide ((p.mark:Int) > (aj:Int))=false\/((p.mark:Int) > (aj:Int)/\(p.fr:Int)=(j:Int)):=by
      by_cases b:aj<p.mark
      .exact υ ⟨V,by have:=ϑc λh=>L ⟨b,h⟩;omega⟩
      .exact τ Θ
     have K:Below a.heap.size a (wr.alloc (.cells #[I p.mark,I p.fr,.map p.st.io,.map p.st.co,.map p.st.lo] 225)):=x.o.alloc a2 _;have Zh:J<|(wr.alloc (.cells #[I p.mark,I p.fr,.map p.st.io,.map p.st.co,.map p.st.lo] 225)).ownsRow a.heap.size 101 3 (.slice B m.length Xq) m.length (fQ m):=F.o.alloc _;rcases t with t|⟨t,ag⟩
     .have ah:¬((p.mark:Int) > (aj:Int)):=by simpa using t
      go_wp2_with fail;go_roundg (ps.length-(i+1));case measure=>omega
      case rel =>refine⟨i+1,V,Λ,K, ?_⟩;rw[Q.o,ύ L];exact Zh.o
     .have ah:decide ((p.mark:Int) > (aj:Int))=true:=by simpa using t
      have al:p.fr=j:=V
      clear ag;subst al;go_wp2_with fail;go_roundg (ps.length-(i+1));case measure=>omega
      case rel =>refine⟨i+1,V,Λ,K, ?_⟩;rw[Q.o,ύ L];exact Zh.o
   .have Z:ps.take i=ps:=ϑg V;rw[Z]at an;have a4:wr.ownsRow a.heap.size 101 3 (.slice B (dJ j aj ps).length Xq) (dJ j aj ps).length (fQ (dJ j aj ps)):=by have:=F.o;rw[Z]at this;exact this
    have HJ:J<|_:=LW wr a.heap.size _ (dJ j aj ps) a4 (λs X=>by obtain⟨p,hp,rfl,_⟩:=lq X;exact H.st p hp) V;have a6:=y.o.2.below x.o;clear H b9 c F a4;rw[Z];go_wp2_with fail;refine ψ HJ.o ?_;rintro C E⟨f,e,l,d,rfl,a5,p1,p2,b7,S⟩;have Y:=a7.o;have ar:=x.o.size;have D:=a6.below S;have G:J<|aP E f e l (λn=>∃s∈dJ j aj ps,s.S n) d/\(∀n v,d n=some v->(∃s∈dJ j aj ps,s.It n=some v)/\¬dA (dJ j aj ps) n)/\(∀n,(∃s∈dJ j aj ps,s.It n≠none)->¬dA (dJ j aj ps) n->d n≠none)/\Below w.heap.size w E:=⟨a5,p1,p2,y.o.1.trans (((x.o.mono (χ _)).trans (S.mono ar)).mono y.o.1.size)⟩;have r0:=(D.cell 0).trans rfl;have r1:=(D.cell 1).trans rfl;have r2:=(D.cell 2).trans rfl;have f0:=D.frozen;clear a5 p1 p2 S D a6 HJ;go_wp2_with fail;have af:aA (λk=>k=w.heap.size) E (((E.setCell (z w.heap.size) (.map (some f))).setCell (O w.heap.size 1) (.map (some e))).setCell (O w.heap.size 2) (.map (some l))):=(((aA.refl (λk=>k=w.heap.size) E).setCell (p:=(z w.heap.size)) rfl _).setCell (p:=(O w.heap.size 1)) rfl _).setCell (p:=(O w.heap.size 2)) rfl _;refine ϐ (v:=.tuple #[.agg #[.map (some f),.map (some e),.map (some l)],.bool true]) (by simp[results,Tryz.results91,go_sem,r0,r1,r2,bV,aT,World.cell?_setCell_other]) rfl ⟨?_,υ ⟨V,f,e,l,d,rfl,G.o.1.aJ af V V V,G.o.2.1,G.o.2.2.1,V⟩⟩;exact((G.o.2.2.2.setCell (p:=(z w.heap.size)) (χ _) _).setCell (p:=(O w.heap.size 1)) (χ _) _).setCell (p:=(O w.heap.size 2)) (χ _) _
def LX(w:World)(kb room:Nat)(pv:Value)(dr ab:Nat)(nb:List Nat)(A:Nat->Nat)(ps:List iJ)(mark:Nat)(h:dP w kb room pv dr ab nb A ps)(hm:mark<=100000):Calls prog 219 #[.pointer (some (z kb)),I mark] w λe w'=>∃o:Bool,e=.returned (.bool o)/\(o=true↔∀j∈nb,mark<=A j)/\Below w.heap.size w w':=by
 obtain⟨N,p⟩:=h.ack;have q3:=(h.blk.cell 3).trans rfl;have M:=ω h.bnd.2.2;have n:J<|dQ prog 3 w (.map (some ab)) N (am nb A):=υ ⟨ab,rfl,p⟩;clear h p;go_enter func219,ntmps219;go_wp2_with (first|(at_range;refine fV rfl (.tmp 10) 96 rfl 3 lU underlying96 rfl n.o ?_;intro w3 C u a0;have t:Below w.heap.size w w3:=((φ w.heap.size w).grown u (χ _) (λk e=>by cases e));clear n u a0;go_frame));go_loopg [6] N (λR v6 G=>∃(left:Value->Prop)(q:Nat),R=q/\bY prog 3 G (.map (some ab)) w.heap.size N (am nb A) left q/\Below w.heap.size w G/\∀j∈nb,¬left (I j)->mark<=A j);case atStart=>exact⟨_,_,rfl,C,t,λj b h=>absurd (by rw[wo,ώ b];rfl) h⟩
 case round =>
  obtain⟨left,q,hq,i,s,r⟩:=hrel;have d:=ω i;have c:=ω s;have m:=ω r;have a7:J<|∀key v,left key->am nb A key=some v->∃x:Nat,key=(λx:Nat=>Value.int .i64 x) x/\v=(λx:Nat=>Value.int .i64 (A x)) x:=λkey v _ U=>by obtain⟨x,f,g,_⟩:=tC U;exact⟨x,f,g⟩
  have a6:=i.lt;clear i s C t r;go_wp2_with (first|(at_next;refine gU rfl (.tmp 11) rfl lU (λx:Nat=>I x) (λx:Nat=>I (A x)) rfl d.o a7.o ?_ ?_))
  .intro X;have H:=ω<|λj b=>m.o j b (X _)
   clear d a7;go_wp2_with fail;go_ret;exact⟨true,rfl,⟨λ_=>H.o,λ_=>rfl⟩,c.o⟩
  .intro a w4 F Y B E a3 y a5 a2;have S:a∈nb:=by obtain⟨x,f,_,g⟩:=tC B;simp at f;exact(show a=x from V)▸g
   have L:=ω E;have l:J<|Below w.heap.size w w4:=c.o.grown y V (λk e=>by cases e;omega);have a1:=M.o a;clear E y d c a7 B Y;by_cases a4:A a<mark
   .have K:J<|¬∀j∈nb,mark<=A j:=λh=>by have:=h a S;omega
    have T:((A a:Nat):Int)<(mark:Int):=V
    generalize A a=x at *;go_wp2_with fail;go_ret;exact⟨false,rfl,⟨λh=>(by cases h),λh=>absurd h K.o⟩,l.o⟩
   .have Q:J<|mark<=A a:=ω V
    have T:¬((A a:Nat):Int)<(mark:Int):=V
    generalize D:A a=x at *;have P:=ω D;clear D;go_wp2_with fail;go_roundg F;case measure=>omega
    case rel=>exact⟨_,F,rfl,L.o,l.o,λj b Z=>by
     by_cases e:j=a
     .subst e;rw[P.o];exact Q.o
     .exact m.o j b (λW=>Z ⟨W,λh=>e (by simp at h;omega)⟩)⟩
def nH(nb:List Nat)(A:Nat->Nat)(dr:Nat):List iJ->Nat
 | []=>dr
 | p::ps=>if nb.all (λj=>decide (p.mark<=A j))then nH nb A p.mark ps else dr
def gG(nb:List Nat)(A:Nat->Nat):List iJ->List iJ
 | []=>[]
 | p::ps=>if nb.all (λj=>decide (p.mark<=A j))then gG nb A ps else p::ps
def uT(nb:List Nat)(A:Nat->Nat)(m:Nat):nb.all (λj=>decide (m<=A j))=true↔∀j∈nb,m<=A j:=Ω
def Uf(w:World)(kb room:Nat)(pv:Value)(dr ab:Nat)(nb:List Nat)(A:Nat->Nat)(ps:List iJ)(t:dP w kb room pv dr ab nb A ps):Calls prog 169 #[.pointer (some (z kb))] w λe w'=>e=.returned (.tuple #[])/\∃Y,dP w' kb room Y (nH nb A dr ps) ab nb A (gG nb A ps)/\Y.ownBlock=pv.ownBlock/\aA (λk=>k=kb\/pv.ownBlock=some k) w w':=by
 have j:=ω t;clear t;go_enter func169,ntmps169;go_wp2_with fail;go_loopg [] (ps.length+1) (λg wx=>∃(f:Value)(h:Nat)(i:List iJ),g=i.length+1/\dP wx kb room f h ab nb A i/\f.ownBlock=pv.ownBlock/\aA (λk=>k=kb\/pv.ownBlock=some k) w wx/\nH nb A h i=nH nb A dr ps/\gG nb A i=gG nb A ps);case atStart=>exact⟨pv,dr,ps,rfl,j.o,rfl,aA.refl _ _,rfl,rfl⟩
 case round =>
  obtain⟨f,h,i,hq,c,R,P,S,T⟩:=hrel;clear j;have l:J<|f.ownBlock=pv.ownBlock/\aA (λk=>k=kb\/pv.ownBlock=some k) w wr:=⟨R,P⟩;have m:J<|nH nb A h i=nH nb A dr ps/\gG nb A i=gG nb A ps:=⟨S,T⟩;clear R P S T;have E:=(c.blk.cell 1).trans rfl;cases i with
  | nil =>obtain⟨ao,cap,d⟩:=c.shape;have j:=ω c;rw[d]at E;have Hs:=ω d;clear c d;go_wp2_with fail;refine bodyPost_end (results_none rfl _ _ _) rfl ⟨rfl,f, ?_,l.o.1,l.o.2⟩;rw[<- m.o.1,<- m.o.2];exact j.o
  | cons p rest =>
   obtain⟨g,cap,d⟩:=dK c.row Ω;have C:=c.bnd.1 p Ω;have W:=c.row.cells (g:=g) (by rw[d];rfl) 0 _ (by simpa using(zG (p::rest) 0 Ω).1);rw[Addr.add_lit]at W;simp only[Nat.zero_add,List.getElem_cons_zero]at W;have a6:rest.length+1<=50:=by have a7:=c.len;have u:=c.r50;simp at a7;omega
   have j:=ω c;have Hs:=ω d;have G:J<|_:=LX wr kb room f h ab nb A (p::rest) p.mark c C.1;rw[d]at E;simp only[δ]at E;have hi:(0:Int)<(rest.length:Int)+1:=V
   have a4:(rest.length:Int)+1 > 0:=V
   have a5:decide ((rest.length:Int)+1 > 0)=true:=Ω
   clear c d;go_wp2_with fail;refine ψ G.o ?_;rintro e w2⟨b,rfl,v,B⟩;have a:=ω<|j.o.below B
   have K:=ω B;clear G j B;cases b with
   | false =>
    have L:J<|¬nb.all (λD=>decide (p.mark<=A D))=true:=ω<|by rw[uT];intro t;have:=v.2 t;cases this
    clear v;go_wp2_with fail;refine bodyPost_end (results_none rfl _ _ _) rfl ⟨rfl,f, ?_,l.o.1,l.o.2.below K.o⟩;have a7:=m.o.1;have u:=m.o.2;rw[show nH nb A h (p::rest)=h from ύ L.o]at a7;rw[show gG nb A (p::rest)=p::rest from ύ L.o]at u;rw[<- a7,<- u];exact a.o
   | true =>
    have M:J<|nb.all (λD=>decide (p.mark<=A D))=true:=ω<|by rw[uT];exact v.1 rfl
    clear v;have H:J<|_:=tH w2 kb room f h ab nb A p rest a.o.blk a.o.row V C.1;go_wp2_with fail;refine ψ H.o ?_;rintro e F⟨rfl,q,U,Z,X,r,a1⟩;have a8:dP F kb room q p.mark ab nb A rest:=by
     have Q:=a.o.ne;have a0:∀(k:Nat)(s:jF),s.At w2->s.own k->¬(k=kb\/f.ownBlock=some k):=λk s d x e=>by
      rcases e with rfl|e
      .exact d.gV x a.o.blk
      .obtain⟨_,⟨a7,_⟩|⟨g',a2,a3,a7,u,h3,_⟩⟩:=a.o.row
       .rw[a7]at e;cases e
       .rw[a7]at e;cases e;exact d.gV x h3
     refine⟨U,Z,a.o.ack.imp λN g=>g.block (r.block _ g.lt (λe=>by rcases e with e|e;exact Q.1 e.symm;exact Q.2.2 e)),λo n=>(a.o.st o (by simp[n])).ZI r (λk x=>a0 k _ (a.o.st o (by simp[n])) x),a.o.r50,by have:=a.o.len;simp at this;omega,⟨λo n=>a.o.bnd.1 o (by simp[n]),C.1,a.o.bnd.2.2⟩,a.o.ZJ,λo n=>a.o.apart o (by simp[n])⟩
    have y:J<|dP F kb room q p.mark ab nb A rest/\q.ownBlock=pv.ownBlock/\aA (λk=>k=kb\/pv.ownBlock=some k) w F:=⟨a8,X.trans l.o.1,(l.o.2.below K.o).trans (by rw[<- l.o.1];exact r)⟩;clear a8 U Z X r a1 H;go_wp2_with fail;go_roundg (rest.length+1);case measure=>simp at hq;omega
    case rel =>
     refine⟨q,p.mark,rest,rfl,y.o.1,y.o.2.1,y.o.2.2, ?_, ?_⟩
     .have a7:=m.o.1;rw[<- a7];exact(ώ M.o).symm
     .have a7:=m.o.2;rw[<- a7];exact(ώ M.o).symm
