import Derived.Test.YtfmmllpjgkgeaaaGreatDoorPartS12
set_option linter.unusedVariables false
set_option linter.unusedSimpArgs false
set_option maxHeartbeats 16000000
set_option maxRecDepth 100000
namespace Go.Proofs.YtfmmllpjgkgeaaaGreatDoor
section
open Go.Proofs.Tryz Go.RowKit Go.Maps Go.WideMaps
variable{nb ns:List Nat}{cap:Nat}{A:Nat->Nat}{s:StD}{v:Value}{w w':World}
theorem jZ(g:Nat):∀(c:List Value)(o:Nat)(w:World)(a:Array Value)(e:TypeId),w.heap[g]?=some (.cells a e (0,0))->o+c.length<=a.size -> ∃b,(w.setCells g o c).heap[g]?=some (.cells b e (0,0))/\b.size=a.size/\∀j,b[j]?=if o<=j/\j<o+c.length then c[j-o]? else a[j]?
 | [],o,w,a,e,h,_=>⟨a,h,rfl,λj=>by rw[ύ (by simp only[List.length_nil];omega)]⟩
 | v::r,o,w,a,e,h,hl=>by
  simp only[δ]at hl;have i:(w.setCell (O g o) v).heap[g]?=some (.cells (a.setIfInBounds o v) e (0,0)):=by simp[World.setCell,μ,h]
  obtain⟨b,k,l,m⟩:=jZ g r (o+1) _ _ e i Θ;refine⟨b,k,by rw[l];simp,λj=>?_⟩;rw[m j,δ];by_cases d:o+1<=j/\j<o+1+r.length
  .rw[ώ d,ώ V,(V:j-o=(j-(o+1))+1),List.getElem?_cons_succ]
  .rw[ύ d];by_cases f:j=o
   .subst f;have n:j<a.size:=V
    rw[ώ V,Nat.sub_self];simp[n]
   .rw[ύ V,Array.getElem?_setIfInBounds,ύ V]
theorem ku(g:Nat):∀(a:List Value)(o:Nat)(w:World),Chg (λk=>k=g) w (w.setCells g o a)/\(w.setCells g o a).heap.size=w.heap.size
 | [],o,w=>⟨Chg.refl _ _,rfl⟩
 | v::r,o,w=>by have h:=ku g r (o+1) (w.setCell (O g o) v);exact⟨((Chg.refl (λk=>k=g) w).setCell (p:=(O g o)) rfl v).trans h.1,h.2.trans Ω⟩
theorem wW{P:Program}(w:World)(t e n:TypeId)(f:Value)(k:P.underlying t=some (.slice e))(l:∀w,(zeroValue e).run P w=.ok f w)(a:List Value)(m:(Builtin.zeroCells f.cells 1).toList=a)(g:∀u∈a,u.oneCell'=true)(b o c:Nat)(h:∀j,j<a.length->(w.cell? (O b (o+j))).isSome=true)(i:∀j,j<a.length->w.frozen? (O b (o+j))=false):(Builtin.clear_ #[t] n #[.slice (some (O b o)) 1 c]).run P w=.ok (.tuple #[]) (w.setCells b o a):=by have d:=run_storeCells_cells (P:=P) b o a 0 w (by simpa using h) (by simpa using i) g;simp only[Nat.add_zero]at d;simp[Builtin.clear_,run_underlying k,l,m,d]
structure PcD where
 mark:Nat
 fr:Nat
 st:StD
def PcD.cells(p:PcD):List Value:=[.int .i64 p.mark,.int .i64 p.fr,.map p.st.io,.map p.st.co,.map p.st.lo]
def aO(ps:List PcD):List Value:=ps.flatMap PcD.cells
theorem l7(p:PcD)(ps:List PcD):aO (p::ps)=p.cells++aO ps:=rfl
theorem CJ(ps:List PcD)(p:PcD):aO (ps++[p])=aO ps++p.cells:=by simp[aO]
theorem jc(ps:List PcD):(aO ps).length=ps.length*5:=by
 induction ps with
 | nil=>rfl
 | cons p r a=>rw[l7,ρ,a];simp[PcD.cells];omega
theorem Fz(ps:List PcD):∀u∈aO ps,u.oneCell'=true:=by intro u b;obtain⟨x,_,a⟩:=List.mem_flatMap.1 b;simp[PcD.cells]at a;rcases a with rfl|rfl|rfl|rfl|rfl<;>rfl
theorem qJ(ps:List PcD):∀(i:Nat)(h:i<ps.length),(aO ps)[i*5]?=some (.int .i64 (ps[i].mark))/\(aO ps)[i*5+1]?=some (.int .i64 (ps[i].fr))/\(aO ps)[i*5+2]?=some (.map ps[i].st.io)/\(aO ps)[i*5+3]?=some (.map ps[i].st.co)/\(aO ps)[i*5+4]?=some (.map ps[i].st.lo):=by
 induction ps with
 | nil=>intro i h;simp at h
 | cons p r ih =>
  intro i h;rw[l7];cases i with
  | zero=>simp[PcD.cells]
  | succ i =>
   have b:p.cells.length=5:=rfl;have e:∀k,(p.cells++aO r)[(i+1)*5+k]?=(aO r)[i*5+k]?:=λk=>by rw[ϋ V,b];congr 1;omega
   have:=ih i (by simpa using h);have a:=e 0;rw[Nat.add_zero,Nat.add_zero]at a;rw[a,e 1,e 2,e 3,e 4];simpa using this
theorem Tryz.infoPc:(prog.info? 222).map (λi=>(i.zero,i.size,i.bytes))=some (some (.agg #[.int .i64 0,.int .i64 0,.map none,.map none,.map none]),5,40):=by kernel_rfl
theorem zPc(w:World):(zeroValue 222).run prog w=.ok (.agg #[.int .i64 0,.int .i64 0,.map none,.map none,.map none]) w:=by kernel_rfl
theorem P5{a:World}{base g:Nat}{p:PcD}{ps:List PcD}{z5:List Value}(G:z5.length=5)(r:w.ownsRow base 222 5 (.slice (some (z g)) (ps.length+1) cap) (ps.length+1) (aO (p::ps)))(i:a=w.drew.setCells g 0 (aO ps)):(a.setCells g (ps.length*5) z5).ownsRow base 222 5 (.slice (some (z g)) ps.length cap) ps.length (aO ps)/\Chg (λk=>k=g) w (a.setCells g (ps.length*5) z5)/\(a.setCells g (ps.length*5) z5).heap.size=w.heap.size /\ (∀j,j<5->(a.cell? (O g (ps.length*5+j))).isSome=true)/\(∀j,a.frozen? (O g j)=false):=by
 obtain⟨F,⟨c,_⟩|⟨B,A,h,c,s,t,C,u,D,E⟩⟩:=r
 .cases c
 .simp only[Value.slice.injEq,Option.some.injEq,Addr.mk.injEq,and_true,true_and]at c;obtain⟨rfl,rfl⟩:=c;have v:w.drew.heap[g]?=some (.cells h 222 (0,0)):=t;obtain⟨f,b,x,m⟩:=jZ g (aO ps) 0 w.drew h _ v (by rw[jc];omega);rw[<- i]at b;obtain⟨q,n,y,o⟩:=jZ g z5 (ps.length*5) a f _ b V;have d:=ku g (aO ps) 0 w.drew;have l:=ku g z5 (ps.length*5) a;rw[<- i]at d;refine⟨⟨jc _,υ ⟨g,cap,q,rfl,s,n,V,u,V, ?_⟩⟩, ?_,by rw[l.2,d.2];rfl,λj e=>?_,λj=>?_⟩
  .refine List.ext_getElem? λj=>?_;rw[List.getElem?_take];by_cases e:j<ps.length*5
   .rw[ώ e,Array.getElem?_toList,o,ύ V,m,ώ (by rw[jc];omega),Nat.sub_zero]
   .rw[ύ e,List.getElem?_eq_none (by rw[jc];omega)]
  .have:Chg (λk=>k=g) w w.drew:=Chg.of_below (φ _ w).drew;exact(this.trans d.1).trans l.1
  .have:ps.length*5+j<f.size:=V
   simp[World.cell?,b,this]
  .simp[World.frozen?,b]
theorem FB(w:World)(base g cap:Nat)(p:PcD)(ps:List PcD)(h:w.ownsRow base 222 5 (.slice (some (z g)) (ps.length+1) cap) (ps.length+1) (aO (p::ps)))(X:ps.length<=1000):Calls prog 227 #[.slice (some (z g)) ((ps.length+1:Nat)) cap,.int .i64 0,.int .i64 1] w λv w'=>v=.returned (.slice (some (z g)) ps.length cap)/\w'.ownsRow base 222 5 (.slice (some (z g)) ps.length cap) ps.length (aO ps)/\Chg (λN=>N=g) w w'/\w'.heap.size=w.heap.size:=by
 obtain⟨M,F,Z,L,a0⟩:=info_parts Tryz.infoPc;obtain⟨b,i⟩:∃b,b=w.drew.setCells g 0 (aO ps):=⟨_,rfl⟩;have c:=P5 (z5:=[.int .i64 0,.int .i64 0,.map none,.map none,.map none]) rfl h i;have U:ps.length+1<=cap/\cap<=9223372036854775807:=by
  obtain⟨_,⟨a,_⟩|⟨x,s,n,a,y,f,B,o,C,D⟩⟩:=h
  .cases a
  .simp only[Value.slice.injEq]at a;obtain⟨_,_,rfl⟩:=a;unfold maxLen at o;omega
 have m:∀j u,(aO ps)[j]?=some u->w.drew.cell? (O g (5+j))=some u:=λj u G=>by have:=h.cells (g:=g) rfl (5+j) u (by rw[l7,ϋ (by simp[PcD.cells])];simpa[PcD.cells]using G);rw[Addr.add_lit,Nat.zero_add]at this;exact this
 obtain⟨A,S,H⟩:∃A:Addr,(if cap=1 then some ((z g):Addr)else some (O g 5))=some A/\J (∀t u,(aO ps)[t]?=some u->w.drew.cell? (A.add t)=some u):=by
  by_cases q:cap=1
  .refine⟨(z g),by simp[q],λt u k=>?_⟩;have:ps=[]:=List.length_eq_zero_iff.1 V;subst this;simp[aO]at k
  .exact⟨(O g 5),by simp[q],λt u k=>by rw[Addr.add_lit];exact m t u k⟩
 have r:J<|(aO ps).length=ps.length*5:=jc ps;have P:J<|∀u∈aO ps,u.oneCell'=true:=Fz ps;have Q:J<|∀t,t<(aO ps).length->(w.drew.cell? (O g (0+0*5+t))).isSome=true/\w.drew.frozen? (O g (0+0*5+t))=false:=λt K=>by
  obtain⟨_,⟨a,_⟩|⟨x,s,n,a,y,f,B,o,C,D⟩⟩:=h
  .cases a
  .simp only[Value.slice.injEq,Option.some.injEq,Addr.mk.injEq,and_true,true_and]at a;obtain⟨rfl,rfl⟩:=a;rw[r.o]at K;have:t<n.size:=V
   refine⟨?_, ?_⟩
   .show(w.cell? _).isSome=true;simp[World.cell?,f,this]
   .show w.frozen? _=false;simp[World.frozen?,f]
 have W:∀l e,(Builtin.clear_ #[218] l #[.slice (some (O g (ps.length*5))) 1 e]).run prog b=.ok (.tuple #[]) (b.setCells g (ps.length*5) [.int .i64 0,.int .i64 0,.map none,.map none,.map none]) :=
  λl e=>wW b _ _ l _ underlying218 zPc _ (by kernel_rfl) (by simp[Value.oneCell']) g (ps.length*5) e c.2.2.2.1 (λj _=>c.2.2.2.2 _)
 have d:J<|_:=c;have E:J<|b=w.drew.setCells g (0+0*5) (aO ps):=ω<|by simpa using i
 have T:(1:Nat)<=cap:=V
 have Y:ps.length<=cap:=V
 have R:(1:Int)<=(ps.length:Int)+1:=V
 clear i c h m;go_enter func227,ntmps227;go_wp2_with fail
 go_region_law (refine step_append_room rfl (.tmp 22) (.tmp 25) 218 rfl 222 M 5 underlying218 F L g 0 0 cap (by simp[Act.eval,Act.put]) A ps.length (cap-1) (aO ps) (by simp[Act.eval,Act.put]) r.o H.o P.o V Q.o ?_;rw[<- E.o])
 go_wp2;go_ret;exact⟨rfl,d.o.1,d.o.2.1,d.o.2.2.1⟩
noncomputable def am(nb:List Nat)(A:Nat->Nat):Value->Option Value:=λkey=>@dite _ (∃a:Nat,key=.int .i64 a) (Classical.propDecidable _) (λh=>if Classical.choose h∈nb then some (.int .i64 (A (Classical.choose h)))else none) (λ_=>none)
theorem uY(nb:List Nat)(A:Nat->Nat)(a:Nat):am nb A (.int .i64 a)=if a∈nb then some (.int .i64 (A a))else none:=by
 unfold am;have h:∃b:Nat,Value.int .i64 a=.int .i64 b:=⟨a,rfl⟩;rw[dif_pos h];have e:Classical.choose h=a:=by have c:=Classical.choose_spec h;generalize Classical.choose h=b at *;simp at c;omega
 rw[e]
theorem uZ{key:Value}(h:am nb A key=some v):∃a:Nat,key=.int .i64 a/\v=.int .i64 (A a)/\a∈nb:=by
 by_cases c:∃a:Nat,key=.int .i64 a
 .obtain⟨a,rfl⟩:=c;rw[uY]at h;by_cases b:a∈nb
  .rw[ώ b]at h;cases h;exact⟨a,rfl,rfl,b⟩
  .rw[ύ b]at h;cases h
 .unfold am at h;rw[dif_neg c]at h;cases h
theorem FC{m:Value->Option Value}(c:∀a:Nat,m (.int .i64 a)=if a∈nb then some (.int .i64 (A a))else none)(d:∀key,(∀a:Nat,key≠.int .i64 a)->m key=none):m=am nb A:=by
 funext key;by_cases b:∃a:Nat,key=.int .i64 a
 .obtain⟨a,rfl⟩:=b;rw[uY,c]
 .rw[d key (λa e=>b ⟨a,e⟩)];unfold am;rw[dif_neg b]
theorem MH(nb:List Nat)(A:Nat->Nat)(a m:Nat):upd (am nb A) (.int .i64 a) (.int .i64 m)=am (if a∈nb then nb else nb++[a]) (λx=>if x=a then m else A x):=by
 refine FC (λx=>?_) (λkey c=>?_)
 .by_cases e:x=a
  .subst e;rw[upd_same,ώ rfl,ώ];by_cases h:x∈nb
   .rw[ώ h];exact h
   .rw[ύ h];simp
  .have:¬(Value.int IntKind.i64 (x:Int)=.int .i64 a):=λh=>e (by simp at h;omega);rw[eX this,uY,ύ e];by_cases h:a∈nb
   .rw[ώ h]
   .rw[ύ h];by_cases b:x∈nb
    .rw[ώ b,ώ (θ.2 (τ b))]
    .rw[ύ b,ύ (λh=>by rcases θ.1 h with h|h;exact b h;exact e (by simpa using h))]
 .rw[eX (c a)];unfold am;rw[dif_neg (λ⟨d,f⟩=>c d f)]
theorem Jj{a m:Nat}(h:a∈nb):upd (am nb A) (.int .i64 a) (.int .i64 m)=am nb (λx=>if x=a then m else A x):=by rw[MH,ώ h]
theorem TQ(A:Nat->Nat):am [] A=λ_=>none:=(FC (λa=>Ω) (λ_ _=>rfl)).symm
def StD.own(s:StD)(k:Nat):Prop:=s.io=some k\/s.co=some k\/s.lo=some k
theorem StD.At.P6{M:Nat->Prop}(h:s.At w)(c:Chg M w w')(d:∀k,s.own k->¬M k):s.At w' :=
 h.chg c (λb a=>d b (by rcases a with h|h|h<;>simp only[Value.map.injEq]at h<;>simp[StD.own,h]))
theorem StD.At.lt(h:s.At w){k:Nat}(a:s.own k):k<w.heap.size:=h.r.lt k (by rcases a with h|h|h<;>rw[h]<;>simp)
structure aQ(w:World)(kb room:Nat)(pv:Value)(dr ab:Nat)(nb:List Nat)(A:Nat->Nat)(ps:List PcD):Prop where
 blk:ah w kb #[.int .i64 room,pv,.int .i64 dr,.map (some ab)] 220
 row:w.ownsRow 0 222 5 pv ps.length (aO ps)
 ack:∃N,aP prog 3 w ab N (am nb A)
 st:∀p∈ps,p.st.At w
 UY:room<=50
 len:ps.length<=room
 bnd:(∀p∈ps,p.mark<=100000/\p.fr<=5)/\dr<=100000/\∀j,A j<=100000
 TR:∀j∈nb,j<=5
 apart:∀p∈ps,¬p.st.own ab
def zJ(kb:Nat)(pv:Value)(ab:Nat)(ps:List PcD)(k:Nat):Prop:=k=kb\/pv.ownBlock=some k\/k=ab\/∃p∈ps,p.st.own k
theorem nD{M:Nat->Prop}{B:Nat}{e:TypeId}{n size:Nat}{xs:List Value}(i:w.ownsRow B e size v n xs)(l:Chg M w w')(m:∀k,v.ownBlock=some k->¬M k):w'.ownsRow B e size v n xs:=by
 obtain⟨c,j|⟨g,cap,h,a,d,b,f⟩⟩:=i
 .exact⟨c,τ j⟩
 .refine⟨c,υ ⟨g,cap,h,a,d, ?_,f⟩⟩;rw[l.block g (by have:=Array.getElem?_eq_some_iff.1 b;exact this.1) (m g (by rw[a];rfl))];exact b
section
variable{w w':World}{kb room:Nat}{pv:Value}{dr ab:Nat}{nb:List Nat}{A:Nat->Nat}{ps:List PcD}
theorem aQ.chg{M:Nat->Prop}(h:aQ w kb room pv dr ab nb A ps)(a:Chg M w w')(b:∀k,zJ kb pv ab ps k->¬M k):aQ w' kb room pv dr ab nb A ps :=
 ⟨h.blk.chg a (b kb (τ rfl)),nD h.row a (λk c=>b k (υ (τ c))),h.ack.imp λN g=>g.block (a.block _ g.lt (b ab (υ (υ (τ rfl))))),λp d=>(h.st p d).P6 a (λk c=>b k (υ (υ (υ ⟨p,d,c⟩)))),h.UY,h.len,h.bnd,h.TR,h.apart⟩
theorem aQ.below(h:aQ w kb room pv dr ab nb A ps)(a:Below w.heap.size w w'):aQ w' kb room pv dr ab nb A ps:=h.chg (M:=λ_=>False) (Chg.of_below a) (λ_ _ h=>h)
theorem aQ.lt(h:aQ w kb room pv dr ab nb A ps){k:Nat}(a:zJ kb pv ab ps k):k<w.heap.size:=by
 rcases a with rfl|a|rfl|⟨p,b,a⟩
 .exact h.blk.lt
 .exact(h.row.lt k a).2
 .obtain⟨N,g⟩:=h.ack;exact g.lt
 .exact(h.st p b).lt a
theorem aQ.ne(h:aQ w kb room pv dr ab nb A ps):kb≠ab/\pv.ownBlock≠some kb/\pv.ownBlock≠some ab:=by
 obtain⟨N,g⟩:=h.ack;refine⟨λe=>?_,ownsRow_ne h.row (λa b e=>?_),ownsRow_ne h.row (λa b e=>g.jH e)⟩
 .subst e;exact g.jH (show w.heap[kb]?=_ from h.blk)
 .have:=h.blk;unfold ah at this;rw[this]at e;cases e
theorem aQ.shape(h:aQ w kb room pv dr ab nb A ps):∃b cap,pv=.slice b ps.length cap:=by
 rcases h.row.2 with⟨a,c⟩|⟨g,cap,d,a,_⟩
 .exact⟨none,0,by rw[a,c]⟩
 .exact⟨_,cap,a⟩
theorem StD.At.eu{s:StD}(h:s.At w){k:Nat}(a:s.own k){cs:Array Value}{t:TypeId}{b:Nat×Nat}:w.heap[k]?≠some (.cells cs t b):=by
 obtain⟨⟨o,L,⟨⟨i,d⟩,⟨j,e⟩,_⟩,_⟩,⟨l,f⟩,_⟩:=h.r;have key:∀{P:Program}{c:TypeId}{v:Option Nat}{N:Nat}{m:Value->Option Value},aW P c w (.map v) N m->v=some k->w.heap[k]?≠some (.cells cs t b):=λ{P c v N m}hm hv=>by
  subst hv;rcases hm with⟨h,_⟩|⟨n,h,g⟩
  .cases h
  .cases h;exact g.jH
 rcases a with a|a|a
 .exact key f a
 .exact key d a
 .exact key e a
theorem CO(h:aQ w kb room pv dr ab nb A ps):Calls prog 106 #[.pointer (some (z kb))] w λe w'=>e=.returned (.int .i64 ps.length)/\w'=w:=by obtain⟨b,cap,a⟩:=h.shape;subst a;have c:=(h.blk.cell 1).trans rfl;clear h;go_enter func106,ntmps106;go_wp2;go_ret;exact⟨rfl,rfl⟩
end
theorem mg(w:World)(kb room:Nat)(pv:Value)(dr ab:Nat)(nb:List Nat)(A:Nat->Nat)(p:PcD)(ps:List PcD)(a:ah w kb #[.int .i64 room,pv,.int .i64 dr,.map (some ab)] 220)(c:w.ownsRow 0 222 5 pv (ps.length+1) (aO (p::ps)))(E:ps.length<=1000)(M:p.mark<=100000):Calls prog 171 #[.pointer (some (z kb))] w λe w'=>e=.returned (.tuple #[])/\∃j,ah w' kb #[.int .i64 room,j,.int .i64 p.mark,.map (some ab)] 220/\w'.ownsRow 0 222 5 j ps.length (aO ps)/\j.ownBlock=pv.ownBlock/\Chg (λk=>k=kb\/pv.ownBlock=some k) w w'/\w'.heap.size=w.heap.size:=by
 obtain⟨g,cap,F⟩:=own_some c V;subst F;have h:g≠kb:=λe=>by subst e;refine ownsRow_ne c (k:=g) (λG H e=>?_) rfl;have m:=a;unfold ah at m;rw[m]at e;cases e
 have n:=(qJ (p::ps) 0 Ω).1;have v:=c.cells (g:=g) rfl 0 _ (by simpa using n);rw[Addr.add_lit]at v;simp only[Nat.zero_add,List.getElem_cons_zero]at v;have P:=(a.cell 1).trans rfl;have Q:=(a.cell 2).trans rfl;have R:=a.frozen;have L:=a.lt;have K:(0:Int)<(ps.length:Int)+1:=V
 have l:J<|∀wx,wx=w.setCell (O kb 2) (.int .i64 p.mark)->ah wx kb #[.int .i64 room,.slice (some (z g)) (ps.length+1) cap,.int .i64 p.mark,.map (some ab)] 220/\Calls prog 227 #[.slice (some (z g)) (ps.length+1) cap,.int .i64 0,.int .i64 1] wx λe w'=>e=.returned (.slice (some (z g)) ps.length cap)/\w'.ownsRow 0 222 5 (.slice (some (z g)) ps.length cap) ps.length (aO ps)/\Chg (λk=>k=g) wx w'/\w'.heap.size=wx.heap.size:=λwx t=>by
  have D:Chg (λk=>k=kb) w wx:=by rw[t];exact(Chg.refl (λk=>k=kb) w).setCell (p:=(O kb 2)) rfl _
  refine⟨?_,FB wx 0 g cap p ps (nD c D (λk f e=>by cases f;exact h e)) E⟩;rw[t];have:=a;unfold ah at this⊢;simp[World.setCell,μ,this]
 have C:J<|Chg (λk=>k=kb\/k=g) w (w.setCell (O kb 2) (.int .i64 p.mark)):=(Chg.refl (λk=>k=kb\/k=g) w).setCell (p:=(O kb 2)) (τ rfl) _;have N:(w.setCell (O kb 2) (.int .i64 p.mark)).heap.size=w.heap.size:=Ω
 clear c a n;go_enter func171,ntmps171;go_wp2_with fail;obtain⟨u,q⟩:=l.o _ rfl;generalize w.setCell (O kb 2) (.int .i64 p.mark)=wx at *;refine ψ q ?_;rintro e b⟨rfl,r,i,s⟩;have d:=u.chg i h.symm;have S:=(d.cell 1).trans rfl;have f2:=d.frozen;have B:J<|b.ownsRow 0 222 5 (.slice (some (z g)) ps.length cap) ps.length (aO ps):=r;have y:J<|ah b kb #[.int .i64 room,.slice (some (z g)) (ps.length+1) cap,.int .i64 p.mark,.map (some ab)] 220:=d;have x:J<|Chg (λk=>k=g) wx b/\b.heap.size=wx.heap.size:=⟨i,s⟩;clear r d i s l q u;go_wp2_with fail;have o:Chg (λk=>k=kb) b (b.setCell (O kb 1) (.slice (some (z g)) ps.length cap)):=(Chg.refl (λk=>k=kb) b).setCell (p:=(O kb 1)) rfl _;refine bodyPost_end (results_none rfl _ _ _) rfl ⟨rfl,.slice (some (z g)) ps.length cap, ?_,nD B.o o (λk f e=>by cases f;exact h e),rfl, ?_, ?_⟩
 .have:=y.o;unfold ah at this⊢;simp[World.setCell,μ,this]
 .exact((C.o.trans (x.o.1.mono (λk _ e=>υ e))).trans (o.mono (λk _ e=>τ e))).mono (λk _ e=>by rcases e with e|e;exact τ e;exact υ (by rw[e];rfl))
 .have:=x.o.2;simp;omega
theorem MI{ab N:Nat}(h:aP prog 3 w ab N (am nb A))(d:∀j∈nb,j<=5):N<=6 :=
 h.bound jd (λa:Nat=>.int .i64 a) (λkey e=>by obtain⟨v,f⟩:=Option.isSome_iff_exists.1 e;obtain⟨a,b,_,c⟩:=uZ f;exact⟨a,by have:=d a c;omega,b⟩)
def gq(w:World)(v:Value)(ns:List Nat):Prop:=(v=.slice none 0 0/\ns=[])\/∃b off cap,v=.slice (some (O b off)) ns.length cap/\ns.length<=cap/\b<w.heap.size/\∀j(h:j<ns.length),w.cell? (O b (off+j))=some (.int .i64 (ns[j]))
theorem gq.below(h:gq w v ns)(c:Below w.heap.size w w'):gq w' v ns:=by
 rcases h with h|⟨b,d,cap,e,f,a,g⟩
 .exact τ h
 .exact υ ⟨b,d,cap,e,f,ο a c.size,λj i=>(c.cell (p:=(O b (d+j))) a).trans (g j i)⟩
theorem gq.shape(h:gq w v ns):∃a cap,v=.slice a ns.length cap:=by
 rcases h with⟨rfl,rfl⟩|⟨b,c,cap,rfl,_⟩
 .exact⟨none,0,rfl⟩
 .exact⟨_,cap,rfl⟩
theorem gq.at{c:Option Addr}{n:Nat}(h:gq w (.slice c n cap) ns)(i:Nat)(e:i<ns.length):∃b a,c=some (O b a)/\n<=cap/\w.cell? (O b (a+i))=some (.int .i64 (ns[i])):=by
 rcases h with⟨_,rfl⟩|⟨b,a,j,d,f,k,g⟩
 .simp at e
 .simp only[Value.slice.injEq]at d;obtain⟨rfl,rfl,rfl⟩:=d;exact⟨b,a,rfl,f,g i e⟩
theorem MJ(w:World)(room:Nat)(M:Value)(nb:List Nat)(u:gq w M nb)(Z:room<=50)(E:∀j∈nb,j<=5)(hl:nb.length<=6):Calls prog 121 #[.int .i64 room,M] w λe w'=>∃kb ab,e=.returned (.pointer (some (z kb)))/\aQ w' kb room (.slice none 0 0) 0 ab nb (λ_=>0) []/\w.heap.size<=kb/\w.heap.size<=ab/\Below w.heap.size w w':=by
 have a7:=@run_makeMap prog;obtain⟨R,cap,hs⟩:=u.shape;subst hs;have P:J<|gq w (.slice R nb.length cap) nb:=u;have A:J<|∀j∈nb,j<=5:=E;clear u E;go_enter func121,ntmps121;go_wp2_with fail;have F:Below w.heap.size w ((w.alloc (.map #[] 0)).alloc (.cells #[.int .i64 room,.slice none 0 0,.int .i64 0,.map (some w.heap.size)] 220)):=((φ _ w).alloc (χ _) _).alloc Ω _;have G:ah ((w.alloc (.map #[] 0)).alloc (.cells #[.int .i64 room,.slice none 0 0,.int .i64 0,.map (some w.heap.size)] 220)) (w.heap.size+1) #[.int .i64 room,.slice none 0 0,.int .i64 0,.map (some w.heap.size)] 220:=by have:=ah.new (w.alloc (.map #[] 0)) #[.int .i64 room,.slice none 0 0,.int .i64 0,.map (some w.heap.size)] 220;rwa [ϊ]at this
 have H:aP prog 3 ((w.alloc (.map #[] 0)).alloc (.cells #[.int .i64 room,.slice none 0 0,.int .i64 0,.map (some w.heap.size)] 220)) w.heap.size 0 (am [] (λ_=>0)):=by rw[TQ];exact(aP.made w prog 3).block (((φ _ (w.alloc (.map #[] 0))).alloc (χ _) _).block _ Ω)
 generalize ((w.alloc (.map #[] 0)).alloc (.cells #[.int .i64 room,.slice none 0 0,.int .i64 0,.map (some w.heap.size)] 220))=v at *;have f:J<|Below w.heap.size w v/\ah v (w.heap.size+1) #[.int .i64 room,.slice none 0 0,.int .i64 0,.map (some w.heap.size)] 220/\aP prog 3 v w.heap.size 0 (am [] (λ_=>0)):=⟨F,G,H⟩;clear F G H;go_loopg [7,14] nb.length (λS v7 a3 x=>∃i N:Nat,i+S=nb.length/\a3=.int .i64 i/\Below w.heap.size w x/\ah x (w.heap.size+1) #[.int .i64 room,.slice none 0 0,.int .i64 0,.map (some w.heap.size)] 220/\(∃l,aP prog 3 x w.heap.size N (am l (λ_=>0))/\(∀j,j∈l↔j∈nb.take i))/\N<=i);case atStart=>exact⟨0,0,V,rfl,f.o.1,f.o.2.1,⟨[],f.o.2.2,Ω⟩,χ _⟩
 case round =>
  obtain⟨i,N,a6,rfl,a,b,⟨l,p,s⟩,a4⟩:=hrel;clear f;have d:J<|Below w.heap.size w wr:=a;have aa:J<|ah wr (w.heap.size+1) #[.int .i64 room,.slice none 0 0,.int .i64 0,.map (some w.heap.size)] 220:=b;have m:J<|aP prog 3 wr w.heap.size N (am l (λ_=>0)):=p;have B:J<|∀j,j∈l↔j∈nb.take i:=s;by_cases r:i<nb.length
  .obtain⟨D,a9,rfl,a5,q0⟩:=(P.o.below a).at i r;obtain⟨n,h⟩:∃n,n=nb[i]:=⟨_,rfl⟩;rw[<- h]at q0;have a8:n<=5:=A.o n (by rw[h];exact κ r);have Q:J<|n=nb[i]:=h;clear h;have z3:=(b.cell 3).trans rfl;obtain⟨kl,X⟩:∃kl,keyOf prog 3 (.int .i64 n)=some kl:=⟨_,qw n V⟩;have Y:N<maxLen:=by unfold maxLen;omega
   clear a b p s;go_wp2_with (first|(at_mapUpdate;refine dO rfl (.tmp 21) (.tmp 22) (.const (.int .i64 0)) 97 rfl 3 jd underlying97 rfl m.o Y (.int .i64 n) (.int .i64 0) _ rfl rfl X ?_;intro w6 L q a0;have T:=d.o.grown q d.o.size (λk e=>by cases e;exact χ _);have U:=aa.o.grown q V;have a2:=MH l (λ_=>0) n 0;clear m d aa q a0;go_frame));go_roundg (nb.length-(i+1));case measure=>omega
   case rel =>
    refine⟨i+1,_,V,Λ,T,U,⟨_,by rw[show(Value.int IntKind.i64 0)=.int .i64 ((0:Nat):Int)from rfl,a2,show(λy=>if y=n then 0 else(λ_:Nat=>(0:Nat)) y)=λ_=>0 from funext λy=>by split<;>rfl]at L;exact L,λj=>?_⟩,by split<;>omega⟩;rw[ν r,<- Q.o,θ,List.mem_singleton,<- B.o j];by_cases t:n∈l
    .rw[ώ t];exact⟨τ,λo=>o.elim id (λe=>e▸t)⟩
    .rw[ύ t,θ,List.mem_singleton]
  .have a1:nb.take i=nb:=List.take_of_length_le V;clear a b p s;go_wp2_with fail;go_ret;have W:am l (λ_=>0)=am nb (λ_=>0):=FC (λC=>by
    rw[uY];have:=B.o C;rw[a1]at this;by_cases g:C∈nb
    .rw[ώ g,ώ (this.2 g)]
    .rw[ύ g,ύ (λo=>g (this.1 o))]) (λkey b=>by unfold am;rw[dif_neg (λ⟨D,a⟩=>b D a)])
   exact⟨w.heap.size+1,w.heap.size,rfl,⟨aa.o,World.ownsRow_nil _ _ _ _,⟨N,by rw[<- W];exact m.o⟩,λK c=>(by simp at c),Z,Ω,⟨λK c=>(by simp at c),V,λ_=>V⟩,A.o,λK c=>(by simp at c)⟩,V,χ _,d.o⟩
theorem MK(w:World)(kb room:Nat)(pv:Value)(dr ab:Nat)(nb:List Nat)(A:Nat->Nat)(ps:List PcD)(j mark:Nat)(h:aQ w kb room pv dr ab nb A ps)(G:mark<=100000)(f:j∈nb):Calls prog 169 #[.pointer (some (z kb)),.int .i64 j,.int .i64 mark] w λe w'=>e=.returned (.tuple #[])/\aQ w' kb room pv dr ab nb (λx=>if x=j then max (A j) mark else A x) ps/\Chg (λk=>k=ab) w w':=by
 obtain⟨N,c⟩:=h.ack;have C:=MI c h.TR;have H:w.drew.cell? (O kb 3)=some (.map (some ab)):=(h.blk.cell 3).trans rfl;have E:=h.TR j f;have n:=qw j V;have d:aP prog 3 w.drew ab N (am nb A):=c;have F:(Instr.lookup 97 (.map (some ab)) (.int .i64 j) false).run prog w.drew=.ok (.int .i64 (A j)) w.drew:=by have:=d.look jd underlying97 (Ey _) n;rw[uY,ώ f]at this;exact this
 obtain⟨w1,r,b,m,u⟩:=d.store jd underlying97 (by unfold maxLen;omega) (.int .i64 ((max (A j) mark:Nat):Int)) n;have a:Chg (λk=>k=ab) w w1:=(Chg.of_below (φ _ w).drew).trans ((Chg.refl _ w.drew).grown m (λk e=>by cases e;exact τ rfl));rw[Jj f]at b;have p:=h.ne;have i:J<|aQ w1 kb room pv dr ab nb (λx=>if x=j then max (A j) mark else A x) ps/\Chg (λk=>k=ab) w w1:=⟨⟨h.blk.chg a p.1,nD h.row a (λk g e=>p.2.2 (by rw[g,e])),⟨_,b⟩,λs q=>(h.st s q).P6 a (λk g e=>h.apart s q (e▸g)),h.UY,h.len,⟨h.bnd.1,h.bnd.2.1,λx=>by
  have y:=h.bnd.2.2 j;have t:=h.bnd.2.2 x;by_cases e:x=j
  .simp only[ώ e];omega
  .simp only[ύ e];exact t⟩,h.TR,h.apart⟩,a⟩
 have D:=h.bnd.2.2 j;have o:((max (A j) mark:Nat):Int)=if A j<mark then(mark:Int) else(A j:Int):=by split<;>omega
 have l:((max (A j) mark:Nat):Int)=max (A j:Int) (mark:Int):=V
 have v:=r;rw[l]at v;rw[o]at r;clear o l;generalize A j=B at *;clear h c d b m u a;go_enter func169,ntmps169;go_wp2_with fail
 go_region
 all_goals go_wp2_with fail
 all_goals exact bodyPost_end (results_none rfl _ _ _) rfl ⟨rfl,i.o.1,i.o.2⟩
def addD(room dr:Nat)(ps:List PcD)(p:PcD):Nat:=if room<ps.length+1 then((ps++[p]).headD p).mark else dr
def addP(room:Nat)(ps:List PcD)(p:PcD):List PcD:=if room<ps.length+1 then(ps++[p]).tail else ps++[p]
theorem ML(w:World)(kb room:Nat)(pv:Value)(dr ab:Nat)(nb:List Nat)(A:Nat->Nat)(ps:List PcD)(p:PcD)(h:aQ w kb room pv dr ab nb A ps)(hp:p.st.At w)(ak:¬p.st.own ab)(hm:p.mark<=100000/\p.fr<=5):Calls prog 153 #[.pointer (some (z kb)),.agg #[.map p.st.io,.map p.st.co,.map p.st.lo],.int .i64 p.fr,.int .i64 p.mark] w λe w'=>e=.returned (.tuple #[])/\∃a1,aQ w' kb room a1 (addD room dr ps p) ab nb A (addP room ps p)/\(a1.ownBlock=pv.ownBlock\/∃k,a1.ownBlock=some k/\w.heap.size<=k)/\Chg (λk=>k=kb\/pv.ownBlock=some k) w w':=by
 obtain⟨i0,hi,an,ap,aq⟩:=info_parts Tryz.infoPc;obtain⟨b,cap,R⟩:=h.shape;have f:J<|aQ w kb room pv dr ab nb A ps:=h;have HP:J<|p.st.At w:=hp;have Q:=h.ne;have ax:=h.blk.lt;have az:=h.len;have ac:=h.UY;have kz:∀o,ah (w.alloc o) kb #[.int .i64 room,pv,.int .i64 dr,.map (some ab)] 220:=λo=>h.blk.alloc o;have E:=ah.new w #[.map p.st.io,.map p.st.co,.map p.st.lo] 102;have X:Below w.heap.size w (w.alloc (.cells #[.map p.st.io,.map p.st.co,.map p.st.lo] 102)):=(φ _ w).alloc (χ _) _;clear h hp;go_enter func153,ntmps153;go_wp2_with fail;have a0:=kz (.cells #[.map p.st.io,.map p.st.co,.map p.st.lo] 102);generalize w.alloc (.cells #[.map p.st.io,.map p.st.co,.map p.st.lo] 102)=r at *;subst R;have m1:J<|ps.length+1<=maxLen:=by unfold J maxLen;omega
 have m2:J<|(ps.length+1)*40<=140737488355328:=ω V
 have aj:J<|∀u∈p.cells,u.oneCell'=true:=by intro u hu;simp[PcD.cells]at hu;rcases hu with rfl|rfl|rfl|rfl|rfl<;>rfl
 have a5:aQ r kb room (.slice b ps.length cap) dr ab nb A ps:=f.o.below X;have qK:J<|r.ownsRow 0 222 5 (.slice b ps.length cap) ps.length (aO ps):=a5.row;have F:J<|ah r kb #[.int .i64 room,.slice b ps.length cap,.int .i64 dr,.map (some ab)] 220:=a0;have q1:=(a0.cell 1).trans rfl;have s0:=(E.cell 0).trans rfl;have s1:=(E.cell 1).trans rfl;have s2:=(E.cell 2).trans rfl;have ar:∀o,(r.alloc o).cell? (O kb 1)=some (.slice b ps.length cap):=λo=>((F.o.alloc o).cell 1).trans rfl;have a2:J<|Below w.heap.size w r:=X;clear a0 kz E X a5;go_cut []from 8 to 20 (λwx=>∃w6 b1 c,wx=w6.setCell (O kb 1) (.slice (some (z b1)) (ps.length+1) c)/\Chg (λk=>(Value.slice b ps.length cap).ownBlock=some k) r w6/\w6.ownsRow 0 222 5 (.slice (some (z b1)) (ps.length+1) c) (ps.length+1) (aO ps++p.cells)/\((Value.slice b ps.length cap).ownBlock=some b1\/w.heap.size<=b1))
 case first =>
  go_region_law (first|(refine dD rfl (.tmp 12) (.tmp 17) 218 rfl 222 i0 (.agg #[.int .i64 0,.int .i64 0,.map none,.map none,.map none]) 5 40 underlying218 hi an ap aq rfl Ψ (.slice b ps.length cap) ps.length (aO ps) rfl ?_ _ 1 1 p.cells rfl rfl ?_ aj.o m1.o m2.o (Nat.succ_pos _) ?_;(exact qK.o.alloc _);(intro j u b2;match j,b2 with|0,b2=>(cases b2;simp[Addr.add])|1,b2=>(cases b2;simp[Addr.add])|2,b2=>(cases b2;simp[Addr.add])|3,b2=>(cases b2;simp[Addr.add])|4,b2=>(cases b2;simp[Addr.add]));intro b1 c w6 B af S;have t:Chg (λk=>(Value.slice b ps.length cap).ownBlock=some k) r w6:=Chg.grown (Chg.of_below Γ) af (λk i=>τ i);have b5:=F.o.chg t Q.2.1;have k1:=(b5.cell 1).trans rfl;have b0:=b5.frozen))
  all_goals
   go_wp2_with fail;go_meet;refine⟨w6,b1,c,rfl,t,B, ?_⟩;rcases S with h|h
   .exact τ h
   .refine υ (ς a2.o.size ?_);simp at h;omega
 case rest =>
 obtain⟨w6,b1,c,rfl,t,B,S⟩:=hcut;have b5:ah w6 kb #[.int .i64 room,.slice b ps.length cap,.int .i64 dr,.map (some ab)] 220:=F.o.chg t Q.2.1;have ag:b1≠kb:=λe=>by subst e;refine ownsRow_ne B (k:=b1) (λad fz e=>?_) rfl;have y:=b5;unfold ah at y;rw[y]at e;cases e
 have Z:Chg (λk=>k=kb) w6 (w6.setCell (O kb 1) (.slice (some (z b1)) (ps.length+1) c)):=(Chg.refl (λk=>k=kb) w6).setCell (p:=(O kb 1)) rfl _;have G:ah (w6.setCell (O kb 1) (.slice (some (z b1)) (ps.length+1) c)) kb #[.int .i64 room,.slice (some (z b1)) (ps.length+1) c,.int .i64 dr,.map (some ab)] 220:=by have:=b5;unfold ah at this⊢;simp[World.setCell,μ,this]
 have a8:(w6.setCell (O kb 1) (.slice (some (z b1)) (ps.length+1) c)).ownsRow 0 222 5 (.slice (some (z b1)) (ps.length+1) c) (ps.length+1) (aO (ps++[p])):=by rw[CJ];exact nD B Z (λk i e=>by cases i;exact ag e)
 have Ri:Chg (λk=>k=kb\/(Value.slice b ps.length cap).ownBlock=some k) w (w6.setCell (O kb 1) (.slice (some (z b1)) (ps.length+1) c)) :=
  ((Chg.of_below a2.o).trans' (t.mono (N:=λk=>k=kb\/(Value.slice b ps.length cap).ownBlock=some k) (λk _ e=>υ e)) (λk _ e=>e)).trans' Z (λk _ e=>τ e)
 clear b5 Z B t q1 ar s0 s1 s2 qK F;generalize w6.setCell (O kb 1) (.slice (some (z b1)) (ps.length+1) c)=W at *;have Rj:J<|∀(v:World)(T:Value)(H:Nat)(n:List PcD),ah v kb #[.int .i64 room,T,.int .i64 H,.map (some ab)] 220->v.ownsRow 0 222 5 T n.length (aO n)->Chg (λk=>k=kb\/(Value.slice b ps.length cap).ownBlock=some k) w v->n.length<=room->(∀q∈n,q∈ps++[p])->H<=100000->aQ v kb room T H ab nb A n:=λv T H n x y K h4 h5 h6=>by
  have ai:∀(k:Nat)(s:StD),s.At w->s.own k->¬(k=kb\/(Value.slice b ps.length cap).ownBlock=some k):=λk s R i e=>by
   rcases e with rfl|e
   .exact R.eu i f.o.blk
   .obtain⟨_,⟨x,_⟩|⟨g',aw,ad,x,y,K,_⟩⟩:=f.o.row
    .rw[x]at e;cases e
    .rw[x]at e;cases e;exact R.eu i K
  have P:∀q∈n,q.st.At w/\(q.mark<=100000/\q.fr<=5)/\¬q.st.own ab:=λq d=>by
   rcases θ.1 (h5 q d)with h|h
   .exact⟨f.o.st q h,f.o.bnd.1 q h,f.o.apart q h⟩
   .rw[List.mem_singleton]at h;subst h;exact⟨HP.o,hm,ak⟩
  refine⟨x,y,f.o.ack.imp λN g=>g.block (K.block _ g.lt (λe=>by rcases e with e|e;exact Q.1 e.symm;exact Q.2.2 e)),λq d=>(P q d).1.P6 K (λk i=>ai k _ (P q d).1 i),ac,h4,⟨λq d=>(P q d).2.1,h6,f.o.bnd.2.2⟩,f.o.TR,λq d=>(P q d).2.2⟩
 have m:J<|ah W kb #[.int .i64 room,.slice (some (z b1)) (ps.length+1) c,.int .i64 dr,.map (some ab)] 220/\W.ownsRow 0 222 5 (.slice (some (z b1)) (ps.length+1) c) (ps.length+1) (aO (ps++[p]))/\Chg (λk=>k=kb\/(Value.slice b ps.length cap).ownBlock=some k) w W:=⟨G,a8,Ri⟩;have aa:J<|dr<=100000:=f.o.bnd.2.1;have U:J<|(Value.slice b ps.length cap).ownBlock=some b1\/w.heap.size<=b1:=S;have e0:W.drew.cell? (z kb)=some (.int .i64 room):=(G.cell 0).trans rfl;have e1:W.drew.cell? (O kb 1)=some (.slice (some (z b1)) (ps.length+1) c):=(G.cell 1).trans rfl;clear G a8 Ri S;by_cases L:room<ps.length+1
 .have ae:decide ((ps.length:Int)+1 > (room:Int))=true:=Θ
  obtain⟨b3,rest,C⟩:∃b3 rest,ps++[p]=b3::rest:=by cases ps with
   | nil=>exact⟨p,[],rfl⟩
   | cons a l=>exact⟨a,l++[p],rfl⟩
  have al:rest.length=ps.length:=by have:=congrArg List.length C;simp at this;omega
  have a7:b3∈ps++[p]:=by rw[C];simp
  have a6:b3.mark<=100000:=by
   rcases θ.1 a7 with h|h
   .exact(f.o.bnd.1 b3 h).1
   .rw[List.mem_singleton]at h;subst h;exact hm.1
  have HD:J<|_:=mg W.drew kb room (.slice (some (z b1)) (ps.length+1) c) dr ab nb A b3 rest m.o.1 (by rw[al,<- C];exact m.o.2.1) V a6;have a3:J<|ps++[p]=b3::rest:=C;clear C a7;go_wp2_with fail
  go_region
  go_wp2_with fail;refine ψ HD.o ?_;rintro e w3⟨rfl,D,Xa,a9,Xb,a4,av⟩;have Y:Chg (λk=>k=kb\/(Value.slice b ps.length cap).ownBlock=some k) w w3:=m.o.2.2.trans' (Chg.trans (Chg.of_below (φ _ W).drew) a4) (λk i e=>by
   rcases e with e|e
   .exact τ e
   .have e':b1=k:=by simpa[Value.ownBlock]using e
    rcases U.o with h|h
    .exact υ (by rw[h,e'])
    .omega)
  have hF:=Rj.o w3 D b3.mark rest Xa a9 Y V (λq d=>by rw[a3.o];simp[d]) a6;have b4:J<|aQ w3 kb room D b3.mark ab nb A rest/\Chg (λk=>k=kb\/(Value.slice b ps.length cap).ownBlock=some k) w w3/\D.ownBlock=some b1:=⟨hF,Y,Xb⟩;clear hF Y Xb Xa a9 a4 av HD;go_wp2_with fail;refine bodyPost_end (results_none rfl _ _ _) rfl ⟨rfl,D, ?_, ?_,b4.o.2.1⟩
  .unfold addD addP;rw[ώ L,ώ L,a3.o];exact b4.o.1
  .rcases U.o with h|h
   .exact τ (by rw[b4.o.2.2,h])
   .exact υ ⟨b1,b4.o.2.2,h⟩
 .have ae:decide ((ps.length:Int)+1 > (room:Int))=false:=Θ
  have hF:=Rj.o W.drew _ dr (ps++[p]) m.o.1 (by rw[ρ];exact m.o.2.1) (Chg.trans' m.o.2.2 (Chg.of_below (M:=λ_=>False) (φ _ W).drew) (λ_ _ h=>h.elim)) Θ (λq d=>d) aa.o;have b4:J<|aQ W.drew kb room (.slice (some (z b1)) (ps.length+1) c) dr ab nb A (ps++[p])/\Chg (λk=>k=kb\/(Value.slice b ps.length cap).ownBlock=some k) w W.drew:=⟨hF,Chg.trans' m.o.2.2 (Chg.of_below (M:=λ_=>False) (φ _ W).drew) (λ_ _ h=>h.elim)⟩;clear hF;go_wp2_with fail
  go_region
  go_wp2_with fail;refine bodyPost_end (results_none rfl _ _ _) rfl ⟨rfl,.slice (some (z b1)) (ps.length+1) c, ?_, ?_,b4.o.2⟩
  .unfold addD addP;rw[ύ L,ύ L];exact b4.o.1
  .rcases U.o with h|h
   .exact τ h.symm
   .exact υ ⟨b1,rfl,h⟩
def bK(aC:List StD):List Value:=aC.flatMap λs=>[.map s.io,.map s.co,.map s.lo]
theorem rH(a:List StD)(s:StD):bK (a++[s])=bK a++[.map s.io,.map s.co,.map s.lo]:=by simp[bK]
theorem vg(a:List StD):(bK a).length=a.length*3:=by
 induction a with
 | nil=>rfl
 | cons s r b=>simp[bK]at b⊢;omega
theorem nG(a:List StD):∀(i:Nat)(h:i<a.length),(bK a)[i*3]?=some (.map a[i].io)/\(bK a)[i*3+1]?=some (.map a[i].co)/\(bK a)[i*3+2]?=some (.map a[i].lo):=by
 induction a with
 | nil=>intro i h;simp at h
 | cons s r ih =>
  intro i h;have c:bK (s::r)=[.map s.io,.map s.co,.map s.lo]++bK r:=rfl;rw[c];cases i with
  | zero=>simp
  | succ i =>
   have e:∀k,([Value.map s.io,.map s.co,.map s.lo]++bK r)[(i+1)*3+k]?=(bK r)[i*3+k]?:=λk=>by rw[ϋ Θ];congr 1;simp;omega
   have:=ih i (by simpa using h);have b:=e 0;rw[Nat.add_zero,Nat.add_zero]at b;rw[b,e 1,e 2];simpa using this
theorem FD{B g:Nat}{aC:List StD}(h:w.ownsRow B 102 3 (.slice (some (z g)) aC.length cap) aC.length (bK aC))(c:∀s∈aC,s.At w):dL w g 0 aC:=by
 have b:=h.cells (g:=g) rfl;refine⟨(h.lt g rfl).2,λj a=>?_,λj a=>?_,λj a=>?_,c⟩
 .have:=b _ _ (nG aC j a).1;rw[Addr.add_lit]at this;exact this
 .have:=b _ _ (nG aC j a).2.1;rw[Addr.add_lit]at this;simpa[Nat.add_assoc]using this
 .have:=b _ _ (nG aC j a).2.2;rw[Addr.add_lit]at this;simpa[Nat.add_assoc]using this
theorem Tryz.infoSt:(prog.info? 102).map (λi=>(i.zero,i.size,i.bytes))=some (some (.agg #[.map none,.map none,.map none]),3,24):=by kernel_rfl
def lackL(j h:Nat)(ps:List PcD):List StD:=(ps.filter λp=>decide (h<p.mark)&&decide (p.fr≠j)).map PcD.st
theorem FH(j h:Nat)(ps:List PcD)(p:PcD):lackL j h (ps++[p])=if h<p.mark/\p.fr≠j then lackL j h ps++[p.st]else lackL j h ps:=by
 unfold lackL;rw[List.filter_append,List.map_append];by_cases a:h<p.mark/\p.fr≠j
 .rw[ώ a,List.filter_cons_of_pos (by simpa using a)];(first|done|rfl)
 .rw[ύ a,List.filter_cons_of_neg (by simpa using a)];simp
theorem Jk(j h:Nat)(ps:List PcD):(lackL j h ps).length<=ps.length:=by unfold lackL;rw[List.length_map];exact List.length_filter_le _ _
theorem lackL_mem{j h:Nat}{ps:List PcD}(d:s∈lackL j h ps):∃p∈ps,p.st=s/\h<p.mark/\p.fr≠j:=by obtain⟨p,c,rfl⟩:=ι.1 d;obtain⟨b,a⟩:=List.mem_filter.1 c;simp at a;exact⟨p,b,rfl,a.1,a.2⟩
theorem MN(w:World):Calls prog 150 #[.slice none 0 0] w λm w'=>∃b a c,m=.returned (.agg #[.map (some b),.map (some a),.map (some c)])/\ay w' b a c (λ_=>False) (λ_=>none)/\(w.heap.size<=b/\w.heap.size<=a/\w.heap.size<=c)/\Below w.heap.size w w':=by
 go_enter func150,ntmps150;go_wp2_with fail;refine ψ (lM _ (.slice none 0 0) [] (τ ⟨rfl,rfl⟩) Ω Ω) ?_;rintro m w1⟨b,a,c,rfl,i,s,d⟩;have n:(w.alloc (.cells #[.map none,.map none,.map none] 102)).heap.size=w.heap.size+1:=Ω
 rw[n]at s d;have G:=i.lt;have g:Below w.heap.size w w1:=((φ _ w).alloc (χ _) _).trans (d.mono V);have h:ah w1 w.heap.size #[.map none,.map none,.map none] 102:=(d.block _ V).trans (heap_alloc_new w _);have e:=(φ _ w1).alloc (χ _) (.cells #[.map (some b),.map (some a),.map (some c)] 102);have l:J<|ay (w1.alloc (.cells #[.map (some b),.map (some a),.map (some c)] 102)) b a c (λ_=>False) (λ_=>none)/\Below w.heap.size w (w1.alloc (.cells #[.map (some b),.map (some a),.map (some c)] 102)):=by have j:=i.below e;exact⟨⟨j.ctx.iff (λt _=>Ω),j.its,j.ne,λt r=>absurd rfl r⟩,g.trans (e.mono g.size)⟩
 have f:=h.below e;have kb:=ah.new w1 #[.map (some b),.map (some a),.map (some c)] 102;have C:w.heap.size<w1.heap.size:=h.lt;clear i d g h e;go_wp2_with fail;generalize w1.alloc (.cells #[.map (some b),.map (some a),.map (some c)] 102)=W at *;have D:=(kb.cell 0).trans rfl;have E:=(kb.cell 1).trans rfl;have F:=(kb.cell 2).trans rfl;have u:=(f.cell 0).trans rfl;have x:=(f.cell 1).trans rfl;have y:=(f.cell 2).trans rfl;have f0:=f.frozen;go_loopg [11] 0 (λo A B=>o=0/\A=.int .i64 0/\B=W);case atStart=>exact⟨rfl,rfl,rfl⟩
 case round =>
  obtain⟨_,rfl,rfl⟩:=hrel;go_wp2_with fail;have q:Chg (λk=>k=w.heap.size) wr (((wr.setCell (z w.heap.size) (.map (some b))).setCell (O w.heap.size 1) (.map (some a))).setCell (O w.heap.size 2) (.map (some c))):=(((Chg.refl (λk=>k=w.heap.size) wr).setCell (p:=(z w.heap.size)) rfl _).setCell (p:=(O w.heap.size 1)) rfl _).setCell (p:=(O w.heap.size 2)) rfl _;refine ϐ (v:=.agg #[.map (some b),.map (some a),.map (some c)]) (by simp[results,Tryz.results150,go_sem,u,x,y,cs_same,cs_oth,World.cell?_setCell_other]) rfl ⟨b,a,c,rfl, ?_,V, ?_⟩
  .exact l.o.1.chg q V V V
  .exact((l.o.2.setCell (p:=(z w.heap.size)) (χ _) _).setCell (p:=(O w.heap.size 1)) (χ _) _).setCell (p:=(O w.heap.size 2)) (χ _) _
theorem CP(w:World)(B:Nat)(v:Value)(a:List StD)(h:w.ownsRow B 102 3 v a.length (bK a))(q:∀s∈a,s.At w)(p:a.length<=1000):Calls prog 150 #[v] w λi w'=>∃d b e f,i=.returned (.agg #[.map (some d),.map (some b),.map (some e)])/\ay w' d b e (λn=>∃s∈a,s.S n) f /\ (∀n v,f n=some v->(∃s∈a,s.It n=some v)/\¬aN a n)/\(∀n,(∃s∈a,s.It n≠none)->¬aN a n->f n≠none)/\(w.heap.size<=d/\w.heap.size<=b/\w.heap.size<=e)/\Below w.heap.size w w':=by
 have l:=h;obtain⟨_,⟨rfl,j⟩|⟨k,cap,r,rfl,j,t,m,_⟩⟩:=h
 .have:a=[]:=List.length_eq_zero_iff.1 j;subst this;refine ψ (MN w) ?_;rintro i w'⟨d,b,e,rfl,g,c,o⟩;refine⟨d,b,e,λ_=>none,rfl,⟨g.ctx.iff (λn _=>Ω),g.its,g.ne,λn c=>absurd rfl c⟩,λn v h=>(by cases h),λn c=>(by simp at c),c,o⟩
 .exact KY w k 0 cap a (FD l q) m p
theorem MO(w:World)(kb room:Nat)(pv:Value)(dr ab:Nat)(nb:List Nat)(A:Nat->Nat)(ps:List PcD)(j:Nat)(h:aQ w kb room pv dr ab nb A ps)(hj:j∈nb):Calls prog 99 #[.pointer (some (z kb)),.int .i64 j] w λC w'=>Below w.heap.size w w'/\((A j<dr/\C=.returned (.tuple #[.agg #[.map none,.map none,.map none],.bool false])) \/ (dr<=A j/\∃f e l d,C=.returned (.tuple #[.agg #[.map (some f),.map (some e),.map (some l)],.bool true])/\ay w' f e l (λn=>∃s∈lackL j (A j) ps,s.S n) d /\ (∀n v,d n=some v->(∃s∈lackL j (A j) ps,s.It n=some v)/\¬aN (lackL j (A j) ps) n)/\(∀n,(∃s∈lackL j (A j) ps,s.It n≠none)->¬aN (lackL j (A j) ps) n->d n≠none)/\(w.heap.size<=f/\w.heap.size<=e/\w.heap.size<=l))):=by
 obtain⟨i0,ak,aw,ax,az⟩:=info_parts Tryz.infoSt;obtain⟨N,R⟩:=h.ack;obtain⟨ao,cap,X⟩:=h.shape;have q1:=(h.blk.cell 1).trans rfl;have q2:=(h.blk.cell 2).trans rfl;have q3:=(h.blk.cell 3).trans rfl;have z1:∀o,(w.alloc o).cell? (O kb 1)=some pv:=λo=>((h.blk.alloc o).cell 1).trans rfl;have z2:∀o,(w.alloc o).cell? (O kb 2)=some (.int .i64 dr):=λo=>((h.blk.alloc o).cell 2).trans rfl;have z3:∀o,(w.alloc o).cell? (O kb 3)=some (.map (some ab)):=λo=>((h.blk.alloc o).cell 3).trans rfl;have b6:=h.TR j hj;have a3:=qw j V;have b7:ps.length<=50:=ς h.len h.UY;have c:=h.bnd;have hu:(am nb A (.int .i64 j)).getD (.int .i64 0)=.int .i64 (A j):=by rw[uY,ώ hj];(first|done|rfl)
 have Q:J<|∀o,aP prog 3 (w.alloc o) ab N (am nb A):=λo=>R.block (((φ _ w).alloc (χ _) o).block _ R.lt);have HK:J<|aQ w kb room pv dr ab nb A ps:=h;have a6:=c.2.2 j;have b1:=c.2.1;obtain⟨aj,a0⟩:∃aj,A j=aj:=⟨_,rfl⟩;rw[a0]at hu a6;rw[a0];have ac:J<|∀p∈ps,p.mark<=100000/\p.fr<=5:=c.1;clear h R c;subst X;by_cases hc:aj<dr
 .have T:(aj:Int)<(dr:Int):=V
  have ag:decide ((aj:Int)<(dr:Int))=true:=by simpa using T
  have q:=ah.new w #[.map none,.map none,.map none] 102;have r0:=(q.cell 0).trans rfl;have r1:=(q.cell 1).trans rfl;have r2:=(q.cell 2).trans rfl;have f0:=q.frozen;go_enter func99,ntmps99;go_wp2_with (first|(at_lookup;refine lG rfl (.tmp 13) (.tmp 14) 97 rfl 3 jd underlying97 (Ey _) rfl (Q.o _) (.int .i64 j) _ rfl a3 _ hu ?_));exact ϐ (v:=.tuple #[.agg #[.map none,.map none,.map none],.bool false]) (by simp[results,Tryz.results99,go_sem,r0,r1,r2]) rfl ⟨(φ _ w).alloc (χ _) _,τ ⟨hc,rfl⟩⟩
 .have T:¬(aj:Int)<(dr:Int):=V
  have ag:decide ((aj:Int)<(dr:Int))=false:=by simpa using T
  have q:=ah.new w #[.map none,.map none,.map none] 102;have a1:Below w.heap.size w (w.alloc (.cells #[.map none,.map none,.map none] 102)):=(φ _ w).alloc (χ _) _;have Y:(w.alloc (.cells #[.map none,.map none,.map none] 102)).heap.size=w.heap.size+1:=Ω
  go_enter func99,ntmps99;go_wp2_with (first|(at_lookup;refine lG rfl (.tmp 13) (.tmp 14) 97 rfl 3 jd underlying97 (Ey _) rfl (Q.o _) (.int .i64 j) _ rfl a3 _ hu ?_));clear z1 z2 z3 q1 q2 q3 Q;generalize w.alloc (.cells #[.map none,.map none,.map none] 102)=a at *;have Yk:J<|a.heap.size=w.heap.size+1:=Y;have y:J<|Below w.heap.size w a/\ah a w.heap.size #[.map none,.map none,.map none] 102:=⟨a1,q⟩;clear Y a1 q;go_loopg [7,28] ps.length (λg v7 b0 wx=>∃i:Nat,i+g=ps.length/\b0=.int .i64 i/\Below a.heap.size a wx/\wx.ownsRow a.heap.size 102 3 v7 (lackL j aj (ps.take i)).length (bK (lackL j aj (ps.take i))));case atStart=>exact⟨0,V,rfl,φ _ _,World.ownsRow_nil _ _ _ _⟩
  case round =>
   obtain⟨i,b5,rfl,c,bb⟩:=hrel;have x:J<|Below a.heap.size a wr:=c;have E:J<|wr.ownsRow a.heap.size 102 3 u7 (lackL j aj (ps.take i)).length (bK (lackL j aj (ps.take i))):=bb;have ar:∃B MP,u7=.slice B (lackL j aj (ps.take i)).length MP:=by
    rcases bb.2 with⟨b,h2⟩|⟨g,cp,a8,b,_⟩
    .exact⟨none,0,by rw[b,h2]⟩
    .exact⟨_,cp,b⟩
   obtain⟨B,MP,rfl⟩:=ar;have an:(lackL j aj (ps.take i)).length<=50:=ς (Jk _ _ _) (by rw[List.length_take];omega);have H:aQ wr kb room (.slice ao ps.length cap) dr ab nb A ps:=HK.o.below (y.o.1.trans (c.mono y.o.1.size));by_cases U:i<ps.length
   .have M:=H.row;obtain⟨g,cp,hg⟩:=own_some M V;simp only[Value.slice.injEq]at hg;obtain⟨rfl,_,rfl⟩:=hg;have b4:ps.length<=cap:=by
     obtain⟨_,⟨b,_⟩|⟨g',b2,a8,b,h2,h3,h4,_⟩⟩:=M
     .cases b
     .simp only[Value.slice.injEq]at b;obtain⟨_,_,rfl⟩:=b;exact h4
    have ba:=qJ ps i U;have r:=M.cells (g:=g) rfl;have c0:=r _ _ ba.1;have c1:=r _ _ ba.2.1;have c2:=r _ _ ba.2.2.1;have c3:=r _ _ ba.2.2.2.1;have c4:=r _ _ ba.2.2.2.2;simp only[Addr.add_lit,Nat.zero_add]at c0 c1 c2 c3 c4;have ap:ps[i]∈ps:=κ U;have b3:=ac.o _ ap;have P:J<|lackL j aj (ps.take (i+1))=if aj<ps[i].mark/\ps[i].fr≠j then lackL j aj (ps.take i)++[ps[i].st]else lackL j aj (ps.take i):=ω<|by rw[ν U];exact FH _ _ _ _
    generalize ps[i]=p at *;generalize lackL j aj (ps.take i)=m at *;have kp:=ah.new wr #[.int .i64 p.mark,.int .i64 p.fr,.map p.st.io,.map p.st.co,.map p.st.lo] 222;have a7:Below wr.heap.size wr (wr.alloc (.cells #[.int .i64 p.mark,.int .i64 p.fr,.map p.st.io,.map p.st.co,.map p.st.lo] 222)):=(φ _ wr).alloc (χ _) _;have a2:a.heap.size<=wr.heap.size:=c.size;clear M r ba H bb c;by_cases L:aj<p.mark/\p.fr≠j
    .have hd1:decide ((p.mark:Int) > (aj:Int))=true:=Θ
     have hd2:(p.mark:Int) > (aj:Int):=V
     have hd3:¬((p.fr:Int)=(j:Int)):=V
     have t:((p.fr:Int) !=(j:Int))=true:=by simpa using hd3
     have HA:J<|∀(ob:Obj)(W:World),Below wr.heap.size wr W->(W.alloc ob).ownsRow a.heap.size 102 3 (.slice B m.length MP) m.length (bK m):=λob W hW=>(own_below E.o hW).alloc ob;have EM:J<|∀k u,([.map p.st.io,.map p.st.co,.map p.st.lo]:List Value)[k]?=some u->((wr.alloc (.cells #[.int .i64 p.mark,.int .i64 p.fr,.map p.st.io,.map p.st.co,.map p.st.lo] 222)).alloc (.cells #[.map p.st.io,.map p.st.co,.map p.st.lo] 102)).cell? (((z (wr.heap.size+1)):Addr).add k)=some u:=λk u hk=>by have kk:=ah.new (wr.alloc (.cells #[.int .i64 p.mark,.int .i64 p.fr,.map p.st.io,.map p.st.co,.map p.st.lo] 222)) #[.map p.st.io,.map p.st.co,.map p.st.lo] 102;rw[ϊ]at kk;rw[Addr.add_lit,kk.cell];simpa using hk
     have a9:m.length+1<=maxLen:=by unfold maxLen;omega
     have aa:(m.length+1)*24<=140737488355328:=V
     go_wp2_with (first|(at_builtin;refine wpList_append_own_at _ rfl (.tmp 42) (.tmp 45) 205 rfl a.heap.size 102 i0 (.agg #[.map none,.map none,.map none]) 3 24 underlying205 ak aw ax az rfl Ψ _ _ _ rfl (HA.o _ _ a7) (z (wr.heap.size+1)) 1 1 [.map p.st.io,.map p.st.co,.map p.st.lo] rfl rfl EM.o (by simp[Value.oneCell']) a9 aa Θ ?_;intro v6 w6 aq ai b8 qg));have K:Below a.heap.size a w6:=by have b:Below a.heap.size a ((wr.alloc (.cells #[.int .i64 p.mark,.int .i64 p.fr,.map p.st.io,.map p.st.co,.map p.st.lo] 222)).alloc (.cells #[.map p.st.io,.map p.st.co,.map p.st.lo] 102)):=(x.o.alloc a2 _).alloc Θ _;exact b.grown ai Θ (λk C=>(E.o.lt k C).1)
     go_roundg (ps.length-(i+1));case measure=>omega
     case rel =>refine⟨i+1,V,Λ,K, ?_⟩;rw[P.o,ώ L,rH,ρ];exact aq
    .have t:decide ((p.mark:Int) > (aj:Int))=false\/((p.mark:Int) > (aj:Int)/\(p.fr:Int)=(j:Int)):=by
      by_cases b:aj<p.mark
      .exact υ ⟨V,by have:p.fr=j:=Classical.byContradiction λh=>L ⟨b,h⟩;omega⟩
      .exact τ Θ
     have K:Below a.heap.size a (wr.alloc (.cells #[.int .i64 p.mark,.int .i64 p.fr,.map p.st.io,.map p.st.co,.map p.st.lo] 222)):=x.o.alloc a2 _;have Ph:J<|(wr.alloc (.cells #[.int .i64 p.mark,.int .i64 p.fr,.map p.st.io,.map p.st.co,.map p.st.lo] 222)).ownsRow a.heap.size 102 3 (.slice B m.length MP) m.length (bK m):=E.o.alloc _;rcases t with t|⟨t,ae⟩
     .have af:¬((p.mark:Int) > (aj:Int)):=by simpa using t
      go_wp2_with fail;go_roundg (ps.length-(i+1));case measure=>omega
      case rel =>refine⟨i+1,V,Λ,K, ?_⟩;rw[P.o,ύ L];exact Ph.o
     .have af:decide ((p.mark:Int) > (aj:Int))=true:=by simpa using t
      have al:p.fr=j:=V
      clear ae;subst al;go_wp2_with fail;go_roundg (ps.length-(i+1));case measure=>omega
      case rel =>refine⟨i+1,V,Λ,K, ?_⟩;rw[P.o,ύ L];exact Ph.o
   .have Z:ps.take i=ps:=List.take_of_length_le V;rw[Z]at an;have a4:wr.ownsRow a.heap.size 102 3 (.slice B (lackL j aj ps).length MP) (lackL j aj ps).length (bK (lackL j aj ps)):=by have:=E.o;rw[Z]at this;exact this
    have HJ:J<|_:=CP wr a.heap.size _ (lackL j aj ps) a4 (λs X=>by obtain⟨p,hp,rfl,_⟩:=lackL_mem X;exact H.st p hp) V;have Q5:=y.o.2.below x.o;clear H bb c E a4;rw[Z];go_wp2_with fail;refine ψ HJ.o ?_;rintro C F⟨f,e,l,d,rfl,a5,p1,p2,b9,S⟩;have Y:=Yk.o;have av:=x.o.size;have D:=Q5.below S;have G:J<|ay F f e l (λn=>∃s∈lackL j aj ps,s.S n) d/\(∀n v,d n=some v->(∃s∈lackL j aj ps,s.It n=some v)/\¬aN (lackL j aj ps) n)/\(∀n,(∃s∈lackL j aj ps,s.It n≠none)->¬aN (lackL j aj ps) n->d n≠none)/\Below w.heap.size w F:=⟨a5,p1,p2,y.o.1.trans (((x.o.mono (χ _)).trans (S.mono av)).mono y.o.1.size)⟩;have r0:=(D.cell 0).trans rfl;have r1:=(D.cell 1).trans rfl;have r2:=(D.cell 2).trans rfl;have f0:=D.frozen;clear a5 p1 p2 S D Q5 HJ;go_wp2_with fail;have ad:Chg (λk=>k=w.heap.size) F (((F.setCell (z w.heap.size) (.map (some f))).setCell (O w.heap.size 1) (.map (some e))).setCell (O w.heap.size 2) (.map (some l))):=(((Chg.refl (λk=>k=w.heap.size) F).setCell (p:=(z w.heap.size)) rfl _).setCell (p:=(O w.heap.size 1)) rfl _).setCell (p:=(O w.heap.size 2)) rfl _;refine ϐ (v:=.tuple #[.agg #[.map (some f),.map (some e),.map (some l)],.bool true]) (by simp[results,Tryz.results99,go_sem,r0,r1,r2,cs_same,cs_oth,World.cell?_setCell_other]) rfl ⟨?_,υ ⟨V,f,e,l,d,rfl,G.o.1.chg ad V V V,G.o.2.1,G.o.2.2.1,V⟩⟩;exact((G.o.2.2.2.setCell (p:=(z w.heap.size)) (χ _) _).setCell (p:=(O w.heap.size 1)) (χ _) _).setCell (p:=(O w.heap.size 2)) (χ _) _
theorem CQ(w:World)(kb room:Nat)(pv:Value)(dr ab:Nat)(nb:List Nat)(A:Nat->Nat)(ps:List PcD)(mark:Nat)(h:aQ w kb room pv dr ab nb A ps)(hm:mark<=100000):Calls prog 170 #[.pointer (some (z kb)),.int .i64 mark] w λe w'=>∃p:Bool,e=.returned (.bool p)/\(p=true↔∀j∈nb,mark<=A j)/\Below w.heap.size w w':=by
 obtain⟨N,r⟩:=h.ack;have q3:=(h.blk.cell 3).trans rfl;have P:J<|∀j,A j<=100000:=h.bnd.2.2;have o:J<|aW prog 3 w (.map (some ab)) N (am nb A):=υ ⟨ab,rfl,r⟩;clear h r;go_enter func170,ntmps170;go_wp2_with (first|(at_range;refine cO rfl (.tmp 10) 97 rfl 3 jd underlying97 rfl o.o ?_;intro w3 D y a2;have u:Below w.heap.size w w3:=((φ w.heap.size w).grown y (χ _) (λk e=>by cases e));clear o y a2;go_frame));go_loopg [6] N (λT v6 H=>∃(left:Value->Prop)(q:Nat),T=q/\aB prog 3 H (.map (some ab)) w.heap.size N (am nb A) left q/\Below w.heap.size w H/\∀j∈nb,¬left (.int .i64 j)->mark<=A j);case atStart=>exact⟨_,_,rfl,D,u,λj b h=>absurd (by rw[uY,ώ b];rfl) h⟩
 case round =>
  obtain⟨left,q,hq,i,t,s⟩:=hrel;have d:J<|aB prog 3 wr (.map (some ab)) w.heap.size N (am nb A) left q:=i;have c:J<|Below w.heap.size w wr:=t;have n:J<|∀j∈nb,¬left (.int .i64 j)->mark<=A j:=s;have a9:J<|∀key v,left key->am nb A key=some v->∃x:Nat,key=(λx:Nat=>Value.int .i64 x) x/\v=(λx:Nat=>Value.int .i64 (A x)) x:=λkey v _ X=>by obtain⟨x,f,g,_⟩:=uZ X;exact⟨x,f,g⟩
  have a8:w.heap.size<wr.heap.size:=i.lt;clear i t D u s;go_wp2_with (first|(at_next;refine dG rfl (.tmp 11) rfl jd (λx:Nat=>.int .i64 x) (λx:Nat=>.int .i64 (A x)) rfl d.o a9.o ?_ ?_))
  .intro Z;have L:J<|∀j∈nb,mark<=A j:=λj b=>n.o j b (Z _);clear d a9;go_wp2_with fail;go_ret;exact⟨true,rfl,⟨λ_=>L.o,λ_=>rfl⟩,c.o⟩
  .intro a G l a0 C F a5 B a7 a4;have U:a∈nb:=by obtain⟨x,f,_,g⟩:=uZ C;simp at f;exact(show a=x from V)▸g
   have M:J<|aB prog 3 G (.map (some ab)) w.heap.size N (am nb A) (λK=>left K/\¬K=Value.int IntKind.i64 (a:Int)) l:=F;have m:J<|Below w.heap.size w G:=c.o.grown B V (λk e=>by cases e;omega);have a3:=P.o a;clear F B d c a9 C a0;by_cases a6:A a<mark
   .have S:J<|¬∀j∈nb,mark<=A j:=λh=>by have:=h a U;omega
    have W:((A a:Nat):Int)<(mark:Int):=V
    generalize A a=x at *;go_wp2_with fail;go_ret;exact⟨false,rfl,⟨λh=>(by cases h),λh=>absurd h S.o⟩,m.o⟩
   .have R:J<|mark<=A a:=ω V
    have W:¬((A a:Nat):Int)<(mark:Int):=V
    generalize E:A a=x at *;have Q:J<|A a=x:=E;clear E;go_wp2_with fail;go_roundg l;case measure=>omega
    case rel=>exact⟨_,l,rfl,M.o,m.o,λj b a1=>by
     by_cases e:j=a
     .subst e;rw[Q.o];exact R.o
     .exact n.o j b (λY=>a1 ⟨Y,λh=>e (by simp at h;omega)⟩)⟩
def tickD(nb:List Nat)(A:Nat->Nat)(dr:Nat):List PcD->Nat
 | []=>dr
 | p::ps=>if nb.all (λj=>decide (p.mark<=A j))then tickD nb A p.mark ps else dr
def tickP(nb:List Nat)(A:Nat->Nat):List PcD->List PcD
 | []=>[]
 | p::ps=>if nb.all (λj=>decide (p.mark<=A j))then tickP nb A ps else p::ps
theorem all_dec(nb:List Nat)(A:Nat->Nat)(m:Nat):nb.all (λj=>decide (m<=A j))=true↔∀j∈nb,m<=A j:=Ω
theorem Jl(w:World)(kb room:Nat)(pv:Value)(dr ab:Nat)(nb:List Nat)(A:Nat->Nat)(ps:List PcD)(t:aQ w kb room pv dr ab nb A ps):Calls prog 105 #[.pointer (some (z kb))] w λe w'=>e=.returned (.tuple #[])/\∃Z,aQ w' kb room Z (tickD nb A dr ps) ab nb A (tickP nb A ps)/\Z.ownBlock=pv.ownBlock/\Chg (λk=>k=kb\/pv.ownBlock=some k) w w':=by
 have j:J<|aQ w kb room pv dr ab nb A ps:=t;clear t;go_enter func105,ntmps105;go_wp2_with fail;go_loopg [] (ps.length+1) (λg wx=>∃(a8:Value)(f:Nat)(i:List PcD),g=i.length+1/\aQ wx kb room a8 f ab nb A i/\a8.ownBlock=pv.ownBlock/\Chg (λk=>k=kb\/pv.ownBlock=some k) w wx/\tickD nb A f i=tickD nb A dr ps/\tickP nb A i=tickP nb A ps);case atStart=>exact⟨pv,dr,ps,rfl,j.o,rfl,Chg.refl _ _,rfl,rfl⟩
 case round =>
  obtain⟨a8,f,i,hq,d,U,S,W,X⟩:=hrel;clear j;have l:J<|a8.ownBlock=pv.ownBlock/\Chg (λk=>k=kb\/pv.ownBlock=some k) w wr:=⟨U,S⟩;have m:J<|tickD nb A f i=tickD nb A dr ps/\tickP nb A i=tickP nb A ps:=⟨W,X⟩;clear U S W X;have F:=(d.blk.cell 1).trans rfl;cases i with
  | nil =>obtain⟨ao,cap,h⟩:=d.shape;have j:J<|aQ wr kb room a8 f ab nb A []:=d;rw[h]at F;have Hs:J<|a8=.slice ao ([]:List PcD).length cap:=h;clear d h;go_wp2_with fail;refine bodyPost_end (results_none rfl _ _ _) rfl ⟨rfl,a8, ?_,l.o.1,l.o.2⟩;rw[<- m.o.1,<- m.o.2];exact j.o
  | cons p rest =>
   obtain⟨g,cap,h⟩:=own_some d.row Ω;have D:=d.bnd.1 p Ω;have Y:=d.row.cells (g:=g) (by rw[h];rfl) 0 _ (by simpa using(qJ (p::rest) 0 Ω).1);rw[Addr.add_lit]at Y;simp only[Nat.zero_add,List.getElem_cons_zero]at Y;have a7:rest.length+1<=50:=by have c:=d.len;have u:=d.UY;simp at c;omega
   have j:J<|aQ wr kb room a8 f ab nb A (p::rest):=d;have Hs:J<|a8=.slice (some (z g)) (p::rest).length cap:=h;have H:J<|_:=CQ wr kb room a8 f ab nb A (p::rest) p.mark d D.1;rw[h]at F;simp only[δ]at F;have hi:(0:Int)<(rest.length:Int)+1:=V
   have a5:(rest.length:Int)+1 > 0:=V
   have a6:decide ((rest.length:Int)+1 > 0)=true:=Ω
   clear d h;go_wp2_with fail;refine ψ H.o ?_;rintro e y⟨b,rfl,v,C⟩;have a:J<|aQ y kb room a8 f ab nb A (p::rest):=j.o.below C;have L:J<|Below wr.heap.size wr y:=C;clear H j C;cases b with
   | false =>
    have M:J<|¬nb.all (λE=>decide (p.mark<=A E))=true:=ω<|by rw[all_dec];intro t;have:=v.2 t;cases this
    clear v;go_wp2_with fail;refine bodyPost_end (results_none rfl _ _ _) rfl ⟨rfl,a8, ?_,l.o.1,l.o.2.below L.o⟩;have c:=m.o.1;have u:=m.o.2;rw[show tickD nb A f (p::rest)=f from ύ M.o]at c;rw[show tickP nb A (p::rest)=p::rest from ύ M.o]at u;rw[<- c,<- u];exact a.o
   | true =>
    have a9:J<|nb.all (λE=>decide (p.mark<=A E))=true:=ω<|by rw[all_dec];exact v.1 rfl
    clear v;have K:J<|_:=mg y kb room a8 f ab nb A p rest a.o.blk a.o.row V D.1;go_wp2_with fail;refine ψ K.o ?_;rintro e G⟨rfl,q,P,a0,Q,r,a2⟩;have R:aQ G kb room q p.mark ab nb A rest:=by
     have T:=a.o.ne;have a1:∀(k:Nat)(s:StD),s.At y->s.own k->¬(k=kb\/a8.ownBlock=some k):=λk s h x e=>by
      rcases e with rfl|e
      .exact h.eu x a.o.blk
      .obtain⟨_,⟨c,_⟩|⟨g',a3,a4,c,u,h3,_⟩⟩:=a.o.row
       .rw[c]at e;cases e
       .rw[c]at e;cases e;exact h.eu x h3
     refine⟨P,a0,a.o.ack.imp λN g=>g.block (r.block _ g.lt (λe=>by rcases e with e|e;exact T.1 e.symm;exact T.2.2 e)),λo n=>(a.o.st o (by simp[n])).P6 r (λk x=>a1 k _ (a.o.st o (by simp[n])) x),a.o.UY,by have:=a.o.len;simp at this;omega,⟨λo n=>a.o.bnd.1 o (by simp[n]),D.1,a.o.bnd.2.2⟩,a.o.TR,λo n=>a.o.apart o (by simp[n])⟩
    have B:J<|aQ G kb room q p.mark ab nb A rest/\q.ownBlock=pv.ownBlock/\Chg (λk=>k=kb\/pv.ownBlock=some k) w G:=⟨R,Q.trans l.o.1,(l.o.2.below L.o).trans (by rw[<- l.o.1];exact r)⟩;clear R P a0 Q r a2 K;go_wp2_with fail;go_roundg (rest.length+1);case measure=>simp at hq;omega
    case rel =>
     refine⟨q,p.mark,rest,rfl,B.o.1,B.o.2.1,B.o.2.2, ?_, ?_⟩
     .have c:=m.o.1;rw[<- c];exact(ώ a9.o).symm
     .have c:=m.o.2;rw[<- c];exact(ώ a9.o).symm
