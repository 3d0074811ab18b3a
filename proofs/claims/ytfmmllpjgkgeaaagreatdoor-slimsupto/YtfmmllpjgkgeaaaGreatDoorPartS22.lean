import Derived.Test.YtfmmllpjgkgeaaaGreatDoorPartS12
set_option linter.unusedVariables false
set_option linter.unusedSimpArgs false
set_option maxHeartbeats 16000000
set_option maxRecDepth 100000
namespace Go.Proofs.YtfmmllpjgkgeaaaGreatDoor
section
open Go.Proofs.Tryz Go.RowKit Go.Maps Go.WideMaps Go.Shelf
variable{n:Nat}
attribute [local go_sem] Oper.semAt_some
def itOf(C:Nat->Option Thk.Ch):Nat->Option Value:=λn=>(C n).map chV
def kR(w:World)(rb a:Nat)(io co lo:Option Nat):Prop:=∃(kb db:Nat)(dn:Bool),ah w rb #[.int .i64 a,.map io,.map co,.map lo,.pointer (some (z kb)),.pointer (some (z db)),.bool dn] 125
section
variable{w w':World}{rb a:Nat}{io co lo:Option Nat}
theorem kR.cell(h:kR w rb a io co lo)(j:Nat)(b:j<4:=by decide):w.cell? (O rb j)=(#[.int .i64 a,.map io,.map co,.map lo]:Array Value)[j]?:=by
 obtain⟨e,c,d,h⟩:=h;rw[h.cell j]
 match j,b with
 | 0,_=>rfl
 | 1,_=>rfl
 | 2,_=>rfl
 | 3,_=>rfl
theorem kR.lt(h:kR w rb a io co lo):rb<w.heap.size:=by obtain⟨_,_,_,h⟩:=h;exact h.lt
theorem kR.chg{M:Nat->Prop}(h:kR w rb a io co lo)(d:Chg M w w')(e:¬M rb):kR w' rb a io co lo:=by obtain⟨f,b,c,h⟩:=h;exact⟨f,b,c,h.chg d e⟩
theorem kR.below(h:kR w rb a io co lo)(d:Below w.heap.size w w'):kR w' rb a io co lo:=by obtain⟨e,b,c,h⟩:=h;exact⟨e,b,c,h.below d⟩
theorem kR.alloc(h:kR w rb a io co lo)(o:Obj):kR (w.alloc o) rb a io co lo:=by obtain⟨d,b,c,h⟩:=h;exact⟨d,b,c,h.alloc o⟩
theorem kR.heap(h:kR w rb a io co lo)(e:w'.heap[rb]?=w.heap[rb]?):kR w' rb a io co lo:=by obtain⟨d,b,c,h⟩:=h;exact⟨d,b,c,e.trans h⟩
end
structure mD(w:World)(rb a:Nat)(io co lo:Option Nat)(K:Nat->Nat)(C:Nat->Option Thk.Ch):Prop where
 blk:kR w rb a io co lo
 st:eU w (.map io) (.map co) (.map lo) (λd=>nth d<=K (who d)) (itOf C)
 ok:∀k c,C k=some c->c.path.length<=1048576
 rY:∀x,K x<=500
 a5:a<=5
theorem mD.chg{M:Nat->Prop}{w w':World}{rb a:Nat}{io co lo:Option Nat}{K:Nat->Nat}{C:Nat->Option Thk.Ch}(h:mD w rb a io co lo K C)(c:Chg M w w')(d:¬M rb)(e:∀b,io=some b\/co=some b\/lo=some b->¬M b):mD w' rb a io co lo K C :=
 ⟨h.blk.chg c d,h.st.chg c (λb f=>e b (by rcases f with h|h|h<;>cases h<;>simp)),h.ok,h.rY,h.a5⟩
theorem mD.below{w w':World}{rb a:Nat}{io co lo:Option Nat}{K:Nat->Nat}{C:Nat->Option Thk.Ch}(h:mD w rb a io co lo K C)(b:Below w.heap.size w w'):mD w' rb a io co lo K C:=h.chg (M:=λ_=>False) (Chg.of_below b) (λh=>h) (λ_ _ h=>h)
theorem itOf_v{C:Nat->Option Thk.Ch}{v:Value}(h:itOf C n=some v):∃c,C n=some c/\v=chV c:=by
 unfold itOf at h;cases hc:C n with
 | none=>rw[hc]at h;cases h
 | some c=>rw[hc]at h;cases h;exact⟨c,rfl,rfl⟩
theorem gK{C:Nat->Option Thk.Ch}{v:Value}(h:itOf C n=some v):nX v:=by obtain⟨c,_,rfl⟩:=itOf_v h;exact⟨_,_,_,_,rfl⟩
theorem itOf_none{C:Nat->Option Thk.Ch}:itOf C n≠none↔C n≠none:=by unfold itOf;cases C n<;>simp
def pU(dp:Thk.Bs)(da:UInt8)(dv:Thk.Bs)(c:Thk.Ch):Bool:=jQ dp da dv c.path c.act (toL (au c.act ⟨c.val.toArray⟩))
end
section
open Go.Proofs.Tryz Go.RowKit Go.Maps Go.WideMaps Go.Shelf
attribute [local go_sem] Oper.semAt_some
def fH(dp:Thk.Bs)(da:UInt8)(dv:Thk.Bs)(C:Nat->Option Thk.Ch)(xs:List dV):List Nat:=(xs.filter (λx=>match C x.n with|some c=>pU dp da dv c|none=>false)).map dV.n
theorem vk(b:Thk.Bs)(a:UInt8)(d:Thk.Bs)(C:Nat->Option Thk.Ch)(xs:List dV)(x:dV)(c:Thk.Ch)(e:C x.n=some c):fH b a d C (xs++[x])=fH b a d C xs++(if pU b a d c=true then [x.n]else []):=by unfold fH;rw[List.filter_append,List.map_append];congr 1;simp only[List.filter_cons,List.filter_nil,e];split<;>simp
theorem CS(w:World)(rb a:Nat)(io co lo:Option Nat)(K:Nat->Nat)(C:Nat->Option Thk.Ch)(bu:mD w rb a io co lo K C)(d f:ByteArray)(e:UInt8)(i:Int)(b5:d.size<=1048576)(m:Int)(hm:w.cell? (z 0)=some (.int .i64 m)):Calls prog 89 #[.pointer (some (z rb)),.agg #[.string d,.int .u8 (e.toNat:Int),.string f,.int .i64 i]] w λs w'=>∃v ns,s=.returned v/\aU w' v ns/\ns.length<=4000/\(∀k,k∈ns↔∃c,C k=some c/\pU (toL d) e (toL f) c=true)/\Below w.heap.size w w':=by
 obtain⟨i0,hi,bd,be,bf⟩:=info_parts Tryz.infoDot;have r0:=(bu.blk.cell 1).trans rfl;have r1:=(bu.blk.cell 2).trans rfl;have r2:=(bu.blk.cell 3).trans rfl;have bm:=bu.blk.lt;have aw:0<w.heap.size:=block_lt_of_cell hm;have bp:∀o q,((w.alloc o).alloc q).cell? (O rb 1)=some (.map io):=λo q=>(((bu.blk.alloc o).alloc q).cell 1).trans rfl;have bq:∀o q,((w.alloc o).alloc q).cell? (O rb 2)=some (.map co):=λo q=>(((bu.blk.alloc o).alloc q).cell 2).trans rfl;have br:∀o q,((w.alloc o).alloc q).cell? (O rb 3)=some (.map lo):=λo q=>(((bu.blk.alloc o).alloc q).cell 3).trans rfl;have R:J<|mD w rb a io co lo K C:=bu;have Sm:J<|∀G,Below w.heap.size w G->G.cell? (z 0)=some (.int .i64 m):=λG S=>(S.cell (p:=(z 0)) aw).trans hm;have aq:J<|∀G,Calls prog 148 #[.agg #[.map io,.map co,.map lo]] G _:=λG=>zh G io co lo;clear bu hm;refine(callsIn_wide (n:=3)).1 ?_;refine callsIn_of_wp_marks func89 rfl trivial ?_ rfl;simp only[ntmps89,List.size_toArray,δ,List.length_nil,Nat.reduceAdd,Nat.reduceSub,Array.replicate_succ,Array.replicate_zero,List.push_toArray,List.append_toArray,List.nil_append,List.cons_append];gi_wp2_with fail;refine⟨trivial,(callsIn_wide.2 (aq.o _)).mono ?_⟩;rintro s w1⟨rfl,rfl⟩;gi_wp2_with fail;have ai:Below w.heap.size w (((w.alloc (.cells #[.string d,.int .u8 (e.toNat:Int),.string f,.int .i64 i] 86)).alloc (.cells #[.slice none 0 0] 137)).alloc (.cells #[.map io,.map co,.map lo] 102)):=((((φ _ w).alloc (χ _) _).alloc Ω _).alloc Θ _);have kc:ah (((w.alloc (.cells #[.string d,.int .u8 (e.toNat:Int),.string f,.int .i64 i] 86)).alloc (.cells #[.slice none 0 0] 137)).alloc (.cells #[.map io,.map co,.map lo] 102)) w.heap.size #[.string d,.int .u8 (e.toNat:Int),.string f,.int .i64 i] 86:=((ah.new w _ _).alloc _).alloc _;have kf:ah (((w.alloc (.cells #[.string d,.int .u8 (e.toNat:Int),.string f,.int .i64 i] 86)).alloc (.cells #[.slice none 0 0] 137)).alloc (.cells #[.map io,.map co,.map lo] 102)) (w.heap.size+1) #[.slice none 0 0] 137:=by have:=(ah.new (w.alloc (.cells #[.string d,.int .u8 (e.toNat:Int),.string f,.int .i64 i] 86)) #[.slice none 0 0] 137).alloc (.cells #[.map io,.map co,.map lo] 102);rwa [ϊ]at this
 have ks:ah (((w.alloc (.cells #[.string d,.int .u8 (e.toNat:Int),.string f,.int .i64 i] 86)).alloc (.cells #[.slice none 0 0] 137)).alloc (.cells #[.map io,.map co,.map lo] 102)) (w.heap.size+2) #[.map io,.map co,.map lo] 102:=by have:=ah.new ((w.alloc (.cells #[.string d,.int .u8 (e.toNat:Int),.string f,.int .i64 i] 86)).alloc (.cells #[.slice none 0 0] 137)) #[.map io,.map co,.map lo] 102;simp only[ϊ]at this;exact this
 generalize (((w.alloc (.cells #[.string d,.int .u8 (e.toNat:Int),.string f,.int .i64 i] 86)).alloc (.cells #[.slice none 0 0] 137)).alloc (.cells #[.map io,.map co,.map lo] 102))=w3 at *;have ax:Iter prog 202 #[.pointer (some (z (w.heap.size+2)))] (λx:dV=>#[aA x.n,Value.agg #[.string x.p,.int .u8 x.a,.string x.v,.int .i64 x.m]]) (gY (itOf C)) (λk=>k=w.heap.size+2\/io=some k) w3:=by obtain⟨N,hN⟩:=R.o.st.its;exact qF w3 (w.heap.size+2) io co lo (itOf C) N ks (hN.below ai) (λk b=>(R.o.st.ok k b).1) (λk v h=>gK h)
 have X:∀k,io=some k->k<w.heap.size:=λk b=>R.o.st.lt k (τ (by rw[b]));have bb:w.heap.size+2<w3.heap.size:=ks.lt;have ak:∀ys bs:List dV,gY (itOf C) ys->bs <+: ys->(fH (toL d) e (toL f) C bs).length<=3072:=λys bs hy hp=>by
  have t:=gX 3072 (ys.map dV.n) hy.1.1 (λk b=>iV (R.o.st.ok k ((hy.1.2 k).1 b)).1);have h2:(fH (toL d) e (toL f) C bs).length<=bs.length:=by unfold fH;rw[List.length_map];exact List.length_filter_le _ _
  have h3:=hp.length_le;simp at t;omega
 refine dP (gf:=202) (lb:=#[.pointer (some (z (w.heap.size+2)))]) rfl (enters_of func202 (by kernel_rfl) rfl) ax (aK.refl _ _) (λk b=>by rcases b with rfl|b;exact bb;have:=X k b;omega) (λ_=>rfl)
  (λT bs W=>Coll w (w.heap.size+1) 137 134 2 (aF (fH (toL d) e (toL f) C bs)) (fH (toL d) e (toL f) C bs).length T W/\ah W w.heap.size #[.string d,.int .u8 (e.toNat:Int),.string f,.int .i64 i] 86/\¬T w.heap.size) (λ_ _ _ _=>False)
  (λT T' bs W W' h j y=>⟨h.1.je j y,h.2.1.chg j h.2.2,λb=>by rcases(y _ b).1 with t|t;exact h.2.2 t;have:=h.2.1.lt;omega⟩) (λ_ _ _ _ _ _ h _ _=>h)
  ⟨⟨_,kf,World.ownsRow_nil _ _ _ _,λh=>h,λ_ _ h=>h,ai,λ_ h=>h.elim,V⟩,kc,λh=>h⟩ ?round ?done ?stop
 case round =>
  rintro l T bs x W bh y⟨⟨v,L⟩,a7,Y⟩ Bv ⟨ys,ap,an⟩;have bc:x∈ys:=an.subset Ω;obtain⟨c,j,zi⟩:=itOf_v (ap.2 x bc);have az:=R.o.ok _ _ j;have a8:(fH (toL d) e (toL f) C (bs++[x])).length<=3072:=ak ys _ ap an;rw[vk _ _ _ _ _ _ _ j]at a8;have Q:J<|fH (toL d) e (toL f) C (bs++[x])=fH (toL d) e (toL f) C bs++(if pU (toL d) e (toL f) c=true then [x.n]else []):=vk _ _ _ _ _ _ _ j;obtain⟨bt,xp,xa,xv,xm⟩:=x;simp only[chV,Value.agg.injEq]at zi;simp at zi;obtain⟨rfl,rfl,rfl,rfl⟩:=zi;simp only at j a8 Q;gi_wp2;have bn:w.heap.size+2<W.heap.size:=by have:=Bv.1;omega
  refine⟨⟨Θ,λk b=>?_⟩, ?_⟩
  .refine(((φ W.heap.size W).alloc (χ _) _).alloc Ω _).block k (b.elim (λh=>?_) (λh=>(y k h).2));rcases h with rfl|h
   .omega
   .have:=X k h;omega
  intro W2 a5 ao hE2;have ab:∀k,T k->k<W2.heap.size:=λk b=>by rw[ao];have:=(y k b).2;simp;omega
  have ac:Chg T W W2:=(Chg.of_below ((((φ W.heap.size W).alloc (χ _) _).alloc Ω _))).trans a5;have aa:=L.je ac (λk b=>⟨τ b,ab k b⟩);have H:ah W2 w.heap.size #[.string d,.int .u8 (e.toNat:Int),.string f,.int .i64 i] 86:=a7.chg ac Y;have kd:ah W2 W.heap.size #[.int .i64 (who bt),.int .i64 (nth bt)] 134:=((ah.new W _ _).alloc _).chg a5 (λb=>by have:=(y _ b).2;omega);have U:ah W2 (W.heap.size+1) #[.string ⟨c.path.toArray⟩,.int .u8 (c.act.toNat:Int),.string (au c.act ⟨c.val.toArray⟩),.int .i64 c.n] 86:=by have:=ah.new (W.alloc (.cells #[.int .i64 (who bt),.int .i64 (nth bt)] 134)) #[.string ⟨c.path.toArray⟩,.int .u8 (c.act.toNat:Int),.string (au c.act ⟨c.val.toArray⟩),.int .i64 c.n] 86;rw[ϊ]at this;exact this.chg a5 (λb=>by have:=(y _ b).2;omega)
  have a0:=(H.cell 0).trans rfl;have a1:=(H.cell 1).trans rfl;have a2:=(H.cell 2).trans rfl;have a3:=(H.cell 3).trans rfl;have b0:=(U.cell 0).trans rfl;have b1:=(U.cell 1).trans rfl;have b2:=(U.cell 2).trans rfl;have b3:=(U.cell 3).trans rfl;have Xd:J<|_:=Ew d f ⟨c.path.toArray⟩ (au c.act ⟨c.val.toArray⟩) e c.act i c.n m W2 b5 (by show c.path.toArray.size<=_;simpa using az) (Sm.o _ aa.below);have ad:J<|fC w (w.heap.size+1) 137 134 2 (aF (fH (toL d) e (toL f) C bs)) (fH (toL d) e (toL f) C bs).length T W2 v:=aa;have IC:J<|ah W2 w.heap.size #[.string d,.int .u8 (e.toNat:Int),.string f,.int .i64 i] 86/\ah W2 W.heap.size #[.int .i64 (who bt),.int .i64 (nth bt)] 134:=⟨H,kd⟩;have ae:J<|aK (λk=>k=w.heap.size+2\/io=some k) w3 W2:=hE2;have Xe:w.heap.size+2<W2.heap.size:=by have:=hE2.1;omega
  clear L aa a7 H kd U ac a5 ao hE2 Bv;gi_wp2_with fail;refine⟨trivial,CallsIn.inRound l ((callsIn_wide.2 Xd.o).mono ?_)⟩;rintro s r⟨rfl,A⟩;have b4:jQ (toL d) e (toL f) (toL ⟨c.path.toArray⟩) c.act (toL (au c.act ⟨c.val.toArray⟩))=pU (toL d) e (toL f) c:=by unfold pU toL;simp
  rw[b4];have QZ:∀k,T k->k<r.heap.size:=λk b=>ο (ab k b) A.size;have bv:J<|fC w (w.heap.size+1) 137 134 2 (aF (fH (toL d) e (toL f) C bs)) (fH (toL d) e (toL f) C bs).length T r v:=ad.o.je (Chg.of_below A) (λk b=>⟨τ b,QZ k b⟩);have Z:J<|ah r w.heap.size #[.string d,.int .u8 (e.toNat:Int),.string f,.int .i64 i] 86:=IC.o.1.below A;have MQ:J<|aK (λk=>(k=w.heap.size+2\/io=some k)\/T k) W2 r:=⟨A.size,λk b=>A.block k (b.elim (λh=>by rcases h with rfl|h;exact Xe;have:=X k h;omega) (ab k))⟩;have c0:=bv.o.bx.cell;have Q9:=IC.o.2.below A;have d0:=(Q9.cell 0).trans rfl;have d1:=(Q9.cell 1).trans rfl;have ar:J<|∀k,(k=w.heap.size+2\/io=some k)->k<r.heap.size/\k≠w.heap.size+1/\v.ownBlock≠some k:=λk b=>by
   have bo:=A.size;have e1:r.heap[k]?=w3.heap[k]?:=(A.block k (by rcases b with rfl|h;exact Xe;have:=X k h;omega)).trans (ae.o.2 k b);rcases b with rfl|b
   .refine⟨V,V,ownsRow_ne bv.o.row (λaf fz s=>?_)⟩;rw[e1,show w3.heap[w.heap.size+2]?=_ from ks]at s;cases s
   .have:=X k b;refine⟨V,V,λs=>?_⟩;have:=(bv.o.row.lt k s).1;omega
  clear A Q9 Xd a0 a1 a2 a3 b0 b1 b2 b3 ad IC ae;cases bw:pU (toL d) e (toL f) c with
  | false =>rw[bw]at Q;gi_wp2_with fail;refine⟨⟨?_,Z.o,Y⟩,MQ.o⟩;have t:=Q.o;simp only[Bool.false_eq_true,if_false,List.append_nil]at t;rw[t];exact⟨v,bv.o⟩
  | true =>
   rw[bw]at Q;have b9:J<|(fH (toL d) e (toL f) C bs).length+1<=maxLen:=by simp only[bw,if_true,ρ,List.length_singleton]at a8;unfold J maxLen;omega
   have b8:J<|((fH (toL d) e (toL f) C bs).length+1)*16<=140737488355328:=by simp only[bw,if_true,ρ,List.length_singleton]at a8;unfold J;omega
   have EM:J<|∀B u,([.int .i64 (who bt),.int .i64 (nth bt)]:List Value)[B]?=some u->(r.alloc (.cells #[.int .i64 (who bt),.int .i64 (nth bt)] 134)).cell? (((z r.heap.size):Addr).add B)=some u:=λB u F=>by
    match B,F with
    | 0,F=>cases F;simp[Addr.add]
    | 1,F=>cases F;simp[Addr.add]
   have bi:w.heap.size<=r.heap.size:=bv.o.below.size;gi_wp2_with (first|(gi_at_builtin;refine wpListIn_append_own_at _ rfl (.tmp 18) (.tmp 20) 137 rfl w.heap.size 134 i0 (.agg #[.int .i64 0,.int .i64 0]) 2 16 underlying137 hi bd be bf rfl Ψ v _ _ rfl (bv.o.row.alloc _) (z r.heap.size) 1 1 [.int .i64 (who bt),.int .i64 (nth bt)] rfl rfl EM.o (by simp[Value.oneCell']) b9.o b8.o Θ ?_;intro v' w5 al aj _ b7;have a4:=bv.o.V3 (E:=λk=>k=w.heap.size+2\/io=some k) Ψ al aj b7 QZ ar.o;obtain⟨g',bg,rfl⟩:=ownsRow_succ al;have bj:=a4.1.cell;have bk:=a4.1.frozen;have b6:ah w5 w.heap.size #[.string d,.int .u8 (e.toNat:Int),.string f,.int .i64 i] 86:=(aj.block w.heap.size (by simp;have:=Z.o.lt;omega) (λs=>ownsRow_ne bv.o.row (λaf fz e2=>by rw[show r.heap[w.heap.size]?=_ from Z.o]at e2;cases e2) s.symm)).trans (Z.o.alloc _)));refine⟨⟨?_, ?_,Y⟩,MQ.o.trans a4.2.2⟩
   .have t:=Q.o;simp only[if_true]at t;rw[t,lQ,ρ];exact⟨_,a4.2.1⟩
   .exact b6.chg (M:=λk=>k=w.heap.size+1) ((Chg.refl (λk=>k=w.heap.size+1) w5).setCell (p:=(z (w.heap.size+1))) rfl _) V
 case done =>
  rintro D T P W hD sG ag⟨⟨v,L⟩,a7,Y⟩ y hK;have c0:=L.bx.cell;have HC:J<|fC w (w.heap.size+1) 137 134 2 (aF (fH (toL d) e (toL f) C P)) (fH (toL d) e (toL f) C P).length T W v:=L;clear L a7;gi_wp2_with fail;refine⟨Ω,.inl ⟨_,_,rfl,run_takeDeferred hK, ?_⟩⟩;have bl:=ak P P ag (List.prefix_refl _);refine⟨_,results_tmp rfl _ _ _,v,fH (toL d) e (toL f) C P,rfl, ?_,V,λk=>?_, ?_⟩
  .have a9:=ownsRow_putObj HC.o.row (.deferred none) hK rfl;obtain⟨S,⟨rfl,hn⟩|⟨g,av,af,rfl,hg,hh,ba,_⟩⟩:=(id a9:World.ownsRow _ _ _ _ _ _ _)
   .exact τ ⟨rfl,List.eq_nil_of_length_eq_zero hn⟩
   .refine υ ⟨g,0,av,rfl,ba,(a9.lt g rfl).2,λB F=>?_⟩;have:=oC _ B F;rw[Nat.zero_add,a9.cellAt (B*2) V,a9.cellAt (B*2+1) V];exact this
  .unfold fH;simp only[ι,List.mem_filter];constructor
   .rintro⟨x,⟨S,a6⟩,rfl⟩;cases j:C x.n with
    | none=>rw[j]at a6;cases a6
    | some c=>rw[j]at a6;exact⟨c,rfl,a6⟩
   .rintro⟨c,j,bw⟩;have:k∈P.map dV.n:=(ag.1.2 k).2 (itOf_none.2 (by rw[j];simp));obtain⟨x,S,rfl⟩:=ι.1 this;exact⟨x,⟨S,by rw[j];exact bw⟩,rfl⟩
  .exact(HC.o.je (T':=T) (bJ W D (.deferred none) sG) (λk b=>⟨τ b,by rw[aV];exact(y k b).2⟩)).below
 case stop =>rintro D T c bs W _ _ h;exact h.elim
end
section
open Go.Proofs.Tryz Go.RowKit Go.Maps Go.WideMaps
theorem mD.ctx{w:World}{rb a:Nat}{io co lo:Option Nat}{K:Nat->Nat}{C:Nat->Option Thk.Ch}(h:mD w rb a io co lo K C):iI w (.map co) (.map lo) K (λ_=>false):=h.st.ctx.first (λ_ _=>Iff.rfl)
theorem kC(w:World)(rb a:Nat)(io co lo:Option Nat)(K:Nat->Nat)(C:Nat->Option Thk.Ch)(b:mD w rb a io co lo K C):Calls prog 46 #[.pointer (some (z rb))] w λe w'=>e=.returned (.int .i64 (sizeK K))/\Below w.heap.size w w':=by have f:=(b.blk.cell 1).trans rfl;have g:=(b.blk.cell 2).trans rfl;have h:=(b.blk.cell 3).trans rfl;have c:J<|_:=Ir w io co lo K b.ctx;clear b;go_enter func46,ntmps46;go_wp2_with fail;refine ψ c.o ?_;rintro e i⟨rfl,d⟩;go_wp2;go_ret;exact⟨rfl,d⟩
theorem MR(w:World)(rb a:Nat)(io co lo:Option Nat)(K:Nat->Nat)(C:Nat->Option Thk.Ch)(b:mD w rb a io co lo K C):Calls prog 86 #[.pointer (some (z rb))] w λe w'=>e=.returned (.int .i64 (K a))/\Below w.heap.size w w':=by
 have s:=(b.blk.cell 0).trans rfl;have t:=(b.blk.cell 1).trans rfl;have u:=(b.blk.cell 2).trans rfl;have v:=(b.blk.cell 3).trans rfl;have r:=b.blk.lt;have o:=b.rY a;have k:=b.a5;have g:J<|∀c,Below w.heap.size w c->Calls prog 87 #[.agg #[.map io,.map co,.map lo],.int .i64 a] c λe w'=>e=.returned (.agg #[.int .i64 a,.int .i64 ((K a+1:Nat):Int)])/\Below w.heap.size w w':=λc d=>by refine ψ (Bl c io co lo a K (b.below d).ctx k) ?_;rintro e w'⟨rfl,m⟩;exact⟨rfl,d.trans (m.mono d.size)⟩
 have f:J<|∀c,Below w.heap.size w c->c.cell? (z rb)=some (.int .i64 a)/\c.cell? (O rb 1)=some (.map io)/\c.cell? (O rb 2)=some (.map co)/\c.cell? (O rb 3)=some (.map lo):=λc d=>⟨((b.blk.below d).cell 0).trans rfl,((b.blk.below d).cell 1).trans rfl,((b.blk.below d).cell 2).trans rfl,((b.blk.below d).cell 3).trans rfl⟩;have l:Below w.heap.size w w.drew:=(φ _ w).drew;obtain⟨n,h⟩:∃n,K a=n:=⟨_,rfl⟩;rw[h]at g o⊢;clear h;have q:=Gt (a:Int) ((n:Int)+1);have j:IntKind.i64.wrap ((n:Int)+1-1)=(n:Int):=by rw[wrap_in _ V V];omega
 clear b;go_enter func86,ntmps86;go_wp2_with fail;go_region_held3 (λw'=>Below w.heap.size w w'/\w'.cell? (z rb)=some (.int .i64 a)/\w'.cell? (O rb 1)=some (.map io)/\w'.cell? (O rb 2)=some (.map co)/\w'.cell? (O rb 3)=some (.map lo)) ((refine⟨?_, ?_, ?_, ?_, ?_⟩<;>(first|assumption|(exact(f.o _ Φ).1)|(exact(f.o _ Φ).2.1)|(exact(f.o _ Φ).2.2.1)|(exact(f.o _ Φ).2.2.2)))) (first|(go_at_call 87;refine ψ (g.o _ l) ?_;rintro e x⟨rfl,p⟩));go_wp2_with fail;go_ret;have i:IntKind.i64.wrap (n:Int)=(n:Int):=wrap_in _ V V;refine⟨?_,Φ⟩;first|(simp[i];done)|(simp[j];done)|(rw[i])|(rw[j])|trace_state
def stepC(C:Nat->Option Thk.Ch)(c:Thk.Ch)(d:Nat):Nat->Option Thk.Ch:=λk =>
 if k=d then(if eG c.act=true then some c else none) else(match C k with|some e=>if pU c.path c.act (toL (au c.act ⟨c.val.toArray⟩)) e=true then none else some e|none=>none)
theorem CU{C:Nat->Option Thk.Ch}{c:Thk.Ch}{K:Nat->Nat}{d:Nat}{ns:List Nat}{s1 s2 s3:StD}{It:Nat->Option Value}(q:∀k,C k≠none->1<=nth k/\nth k<=K (who k))(E:nth d=K (who d)+1)(o:∀k,k∈ns↔∃e,C k=some e/\pU c.path c.act (toL (au c.act ⟨c.val.toArray⟩)) e=true)(x:s1.S=λk=>nth k<=K (who k))(t:s1.It=itOf C)(m:s2.S=λk=>k∈ns)(i2:s2.It=λ_=>none)(y:s3.S=λk=>k=d)(u:s3.It=λk=>if k=d/\eG c.act=true then some (chV c)else none)(l:∀k v,It k=some v->(∃s∈[s1,s2,s3],s.It k=some v)/\¬aN [s1,s2,s3] k)(B:∀k,(∃s∈[s1,s2,s3],s.It k≠none)->¬aN [s1,s2,s3] k->It k≠none):It=itOf (stepC C c d)/\∀k,1<=nth k->((∃s∈[s1,s2,s3],s.S k)↔nth k<=inc K (who d) (who k)):=by
 have j:∀(Q:StD->Prop),(∃s∈[s1,s2,s3],Q s)↔Q s1\/Q s2\/Q s3:=λQ=>Ω
 have p:∀k,aN [s1,s2,s3] k↔(C k=none/\nth k<=K (who k))\/k∈ns\/(k=d/\¬eG c.act=true):=λk=>by
  unfold aN;rw[j];simp only[x,t,m,i2,y,u,itOf];constructor
  .rintro(⟨a,b⟩|⟨_,b⟩|⟨a,b⟩)
   .exact τ ⟨by simpa using a,b⟩
   .exact υ (τ b)
   .refine υ (υ ⟨b,λh=>?_⟩);rw[ώ ⟨b,h⟩]at a;cases a
  .rintro(⟨a,b⟩|b|⟨a,b⟩)
   .exact τ ⟨by simpa using a,b⟩
   .exact υ (τ ⟨Ω,b⟩)
   .exact υ (υ ⟨ύ (λh=>b h.2),a⟩)
 have r:∀k v,(∃s∈[s1,s2,s3],s.It k=some v)↔(itOf C k=some v)\/(k=d/\eG c.act=true/\v=chV c):=λk v=>by
  rw[j];simp only[t,i2,u];constructor
  .rintro(h|h|h)
   .exact τ h
   .cases h
   .split at h
    .rename_i hh;cases h;exact υ ⟨hh.1,hh.2,rfl⟩
    .cases h
  .rintro(h|⟨a,b,rfl⟩)
   .exact τ h
   .exact υ (υ (ώ ⟨a,b⟩))
 have A:C d=none:=by
  cases h:C d with
  | none=>rfl
  | some e=>have:=q d (by rw[h];simp);omega
 constructor
 .funext k;unfold itOf stepC;by_cases g:k=d
  .subst g;rw[ώ rfl];by_cases i:eG c.act=true
   .rw[ώ i];have w:¬aN [s1,s2,s3] k:=by
     rw[p];rintro(⟨_,h⟩|h|⟨_,h⟩)
     .omega
     .obtain⟨e,a,_⟩:=(o _).1 h;rw[A]at a;cases a
     .exact h i
    obtain⟨v,f⟩:=Option.ne_none_iff_exists'.1 (B k ((j _).2 (υ (υ (by rw[u];simp[i])))) w);rw[f];rcases(r _ _).1 (l _ _ f).1 with h|⟨_,_,rfl⟩
    .simp[itOf,A]at h
    .rfl
   .rw[ύ i];cases f:It k with
    | none=>rfl
    | some v=>exact absurd ((p _).2 (υ (υ ⟨rfl,i⟩))) (l _ _ f).2
  .rw[ύ g];cases TS:C k with
   | none =>
    cases f:It k with
    | none=>rfl
    | some v =>
     rcases(r _ _).1 (l _ _ f).1 with h|⟨h,_⟩
     .simp[itOf,TS]at h
     .exact absurd h g
   | some e =>
    have F:=q k (by rw[TS];simp);by_cases n:pU c.path c.act (toL (au c.act ⟨c.val.toArray⟩)) e=true
    .simp only[n,if_true];cases f:It k with
     | none=>rfl
     | some v=>exact absurd ((p _).2 (υ (τ ((o k).2 ⟨e,TS,n⟩)))) (l _ _ f).2
    .simp only[n];have w:¬aN [s1,s2,s3] k:=by
      rw[p];rintro(⟨h,_⟩|h|⟨h,_⟩)
      .rw[TS]at h;cases h
      .obtain⟨D,a,b⟩:=(o k).1 h;rw[TS]at a;cases a;exact n b
      .exact g h
     obtain⟨v,f⟩:=Option.ne_none_iff_exists'.1 (B k ((j _).2 (τ (by rw[t];simp[itOf,TS]))) w);rw[f];rcases(r _ _).1 (l _ _ f).1 with h|⟨h,_⟩
     .simp[itOf,TS]at h;simp[h]
     .exact absurd h g
 .intro k g;rw[j];simp only[x,m,y];constructor
  .rintro(h|h|h)
   .by_cases e:who k=who d
    .rw[e,bP];rw[e]at h;omega
    .rw[eY e];exact h
   .obtain⟨e,a,_⟩:=(o k).1 h;have:=(q k (by rw[a];simp)).2;by_cases e:who k=who d
    .rw[e,bP];rw[e]at this;omega
    .rw[eY e];exact this
   .rw[h,bP];omega
  .intro h;by_cases e:who k=who d
   .rw[e,bP]at h;by_cases m:nth k=nth d
    .exact υ (υ (jl e m))
    .exact τ (by rw[e];omega)
   .rw[eY e]at h;exact τ h
