import Derived.Test.YtfmmllpjgkgeaabGreatDoorZ12
set_option linter.all false
set_option maxHeartbeats 0
set_option maxRecDepth 100000
namespace Go.Proofs.YtfmmllpjgkgeaabGreatDoor
section
open Go.Proofs.Tryz Go.RowKit Go.Maps Go.WideMaps Go.Shelf
variable{n:Nat}
attribute [local go_sem] Oper.semAt_some
def aU(C:Nat->Option Thk.Ch):Nat->Option Value:=λn=>(C n).map sK
def tK(w:World)(rb a:Nat)(io co lo:Option Nat):Prop:=∃(kb db:Nat)(dn:Bool),aC w rb #[I a,.map io,.map co,.map lo,.pointer (some (z kb)),.pointer (some (z db)),.bool dn] 129
section
variable{w w':World}{rb a:Nat}{io co lo:Option Nat}
def tK.cell(h:tK w rb a io co lo)(j:Nat)(b:j<4:=by decide):w.cell? (O rb j)=(#[I a,.map io,.map co,.map lo]:Array Value)[j]?:=by
 obtain⟨e,c,d,h⟩:=h;rw[h.cell j]
 match j,b with
 | 0,_=>rfl
 | 1,_=>rfl
 | 2,_=>rfl
 | 3,_=>rfl
def tK.lt(h:tK w rb a io co lo):rb<w.heap.size:=by obtain⟨_,_,_,h⟩:=h;exact h.lt
def tK.aJ{M:Nat->Prop}(h:tK w rb a io co lo)(d:aA M w w')(e:¬M rb):tK w' rb a io co lo:=by obtain⟨f,b,c,h⟩:=h;exact⟨f,b,c,h.aJ d e⟩
def tK.below(h:tK w rb a io co lo)(d:Below w.heap.size w w'):tK w' rb a io co lo:=by obtain⟨e,b,c,h⟩:=h;exact⟨e,b,c,h.below d⟩
def tK.alloc(h:tK w rb a io co lo)(o:Obj):tK (w.alloc o) rb a io co lo:=by obtain⟨d,b,c,h⟩:=h;exact⟨d,b,c,h.alloc o⟩
def tK.heap(h:tK w rb a io co lo)(e:w'.heap[rb]?=w.heap[rb]?):tK w' rb a io co lo:=by obtain⟨d,b,c,h⟩:=h;exact⟨d,b,c,e.trans h⟩
end
structure vH(w:World)(rb a:Nat)(io co lo:Option Nat)(K:Nat->Nat)(C:Nat->Option Thk.Ch):Prop where
 blk:tK w rb a io co lo
 st:ji w (.map io) (.map co) (.map lo) (λd=>nth d<=K (who d)) (aU C)
 ok:∀k c,C k=some c->c.path.length<=1048576
 nI:∀x,K x<=500
 a5:a<=5
def vH.aJ{M:Nat->Prop}{w w':World}{rb a:Nat}{io co lo:Option Nat}{K:Nat->Nat}{C:Nat->Option Thk.Ch}(h:vH w rb a io co lo K C)(c:aA M w w')(d:¬M rb)(e:∀b,io=some b\/co=some b\/lo=some b->¬M b):vH w' rb a io co lo K C :=
 ⟨h.blk.aJ c d,h.st.aJ c (λb f=>e b (by rcases f with h|h|h<;>cases h<;>simp)),h.ok,h.nI,h.a5⟩
def vH.below{w w':World}{rb a:Nat}{io co lo:Option Nat}{K:Nat->Nat}{C:Nat->Option Thk.Ch}(h:vH w rb a io co lo K C)(b:Below w.heap.size w w'):vH w' rb a io co lo K C:=h.aJ (M:=λ_=>False) (aA.of_below b) (λh=>h) (λ_ _ h=>h)
def oK{C:Nat->Option Thk.Ch}{v:Value}(h:aU C n=some v):∃c,C n=some c/\v=sK c:=by
 unfold aU at h;cases hc:C n with
 | none=>rw[hc]at h;cases h
 | some c=>rw[hc]at h;cases h;exact⟨c,rfl,rfl⟩
def lC{C:Nat->Option Thk.Ch}{v:Value}(h:aU C n=some v):Ad v:=by obtain⟨c,_,rfl⟩:=oK h;exact⟨_,_,_,_,rfl⟩
def dO{C:Nat->Option Thk.Ch}:aU C n≠none↔C n≠none:=by unfold aU;cases C n<;>simp
def yN(dp:Thk.Bs)(da:UInt8)(dv:Thk.Bs)(c:Thk.Ch):Bool:=pI dp da dv c.path c.act (ay (aG c.act ⟨c.val.toArray⟩))
end
section
open Go.Proofs.Tryz Go.RowKit Go.Maps Go.WideMaps Go.Shelf
attribute [local go_sem] Oper.semAt_some
def ou(dp:Thk.Bs)(da:UInt8)(dv:Thk.Bs)(C:Nat->Option Thk.Ch)(xs:List jB):List Nat:=(xs.filter (λx=>match C x.n with|some c=>yN dp da dv c|none=>false)).map jB.n
def DL(b:Thk.Bs)(a:UInt8)(d:Thk.Bs)(C:Nat->Option Thk.Ch)(xs:List jB)(x:jB)(c:Thk.Ch)(e:C x.n=some c):ou b a d C (xs++[x])=ou b a d C xs++(if yN b a d c=true then [x.n]else []):=by unfold ou;rw[ϑH,ϑF];congr 1;simp only[List.filter_cons,List.filter_nil,e];split<;>simp
def LY(w:World)(rb a:Nat)(io co lo:Option Nat)(K:Nat->Nat)(C:Nat->Option Thk.Ch)(t:vH w rb a io co lo K C)(d f:ByteArray)(e:UInt8)(i:Int)(b5:d.size<=1048576)(m:Int)(hm:w.cell? (z 0)=some (I m)):Calls prog 80 #[.pointer (some (z rb)),.agg #[.string d,.int .u8 (e.toNat:Int),.string f,I i]] w λr w'=>∃y ns,r=.returned y/\dN w' y ns/\ns.length<=4000/\(∀k,k∈ns↔∃c,C k=some c/\yN (ay d) e (ay f) c=true)/\Below w.heap.size w w':=by
 obtain⟨i0,hi,be,bf,bg⟩:=info_parts Tryz.infoDot;have r0:=(t.blk.cell 1).trans rfl;have r1:=(t.blk.cell 2).trans rfl;have r2:=(t.blk.cell 3).trans rfl;have bn:=t.blk.lt;have ax:0<w.heap.size:=block_lt_of_cell hm;have bq:∀o q,((w.alloc o).alloc q).cell? (O rb 1)=some (.map io):=λo q=>(((t.blk.alloc o).alloc q).cell 1).trans rfl;have br:∀o q,((w.alloc o).alloc q).cell? (O rb 2)=some (.map co):=λo q=>(((t.blk.alloc o).alloc q).cell 2).trans rfl;have bs:∀o q,((w.alloc o).alloc q).cell? (O rb 3)=some (.map lo):=λo q=>(((t.blk.alloc o).alloc q).cell 3).trans rfl;have P:=ω t;have b8:J<|∀G,Below w.heap.size w G->G.cell? (z 0)=some (I m):=λG S=>(S.cell (p:=(z 0)) ax).trans hm;have IY:J<|∀G,Calls prog 140 #[.agg #[.map io,.map co,.map lo]] G _:=λG=>IL G io co lo;clear t hm;refine(callsIn_wide (n:=3)).1 ?_;refine callsIn_of_wp_marks func80 rfl trivial ?_ rfl;simp only[ntmps80,List.size_toArray,δ,List.length_nil,Nat.reduceAdd,Nat.reduceSub,Array.replicate_succ,Array.replicate_zero,List.push_toArray,List.append_toArray,List.nil_append,List.cons_append];gi_wp2_with fail;refine⟨trivial,(callsIn_wide.2 (IY.o _)).mono ?_⟩;rintro r w1⟨rfl,rfl⟩;gi_wp2_with fail;have ak:Below w.heap.size w (((w.alloc (.cells #[.string d,.int .u8 (e.toNat:Int),.string f,I i] 85)).alloc (.cells #[.slice none 0 0] 143)).alloc (.cells #[.map io,.map co,.map lo] 101)):=((((φ _ w).alloc (χ _) _).alloc Ω _).alloc Θ _);have kc:aC (((w.alloc (.cells #[.string d,.int .u8 (e.toNat:Int),.string f,I i] 85)).alloc (.cells #[.slice none 0 0] 143)).alloc (.cells #[.map io,.map co,.map lo] 101)) w.heap.size #[.string d,.int .u8 (e.toNat:Int),.string f,I i] 85:=((aC.new w _ _).alloc _).alloc _;have kf:aC (((w.alloc (.cells #[.string d,.int .u8 (e.toNat:Int),.string f,I i] 85)).alloc (.cells #[.slice none 0 0] 143)).alloc (.cells #[.map io,.map co,.map lo] 101)) (w.heap.size+1) #[.slice none 0 0] 143:=by have:=(aC.new (w.alloc (.cells #[.string d,.int .u8 (e.toNat:Int),.string f,I i] 85)) #[.slice none 0 0] 143).alloc (.cells #[.map io,.map co,.map lo] 101);rwa [ϊ]at this
 have ks:aC (((w.alloc (.cells #[.string d,.int .u8 (e.toNat:Int),.string f,I i] 85)).alloc (.cells #[.slice none 0 0] 143)).alloc (.cells #[.map io,.map co,.map lo] 101)) (w.heap.size+2) #[.map io,.map co,.map lo] 101:=by have:=aC.new ((w.alloc (.cells #[.string d,.int .u8 (e.toNat:Int),.string f,I i] 85)).alloc (.cells #[.slice none 0 0] 143)) #[.map io,.map co,.map lo] 101;simp only[ϊ]at this;exact this
 generalize (((w.alloc (.cells #[.string d,.int .u8 (e.toNat:Int),.string f,I i] 85)).alloc (.cells #[.slice none 0 0] 143)).alloc (.cells #[.map io,.map co,.map lo] 101))=w3 at *;have Aa:Iter prog 195 #[.pointer (some (z (w.heap.size+2)))] (λx:jB=>#[aW x.n,Value.agg #[.string x.p,.int .u8 x.a,.string x.v,I x.m]]) (ny (aU C)) (λk=>k=w.heap.size+2\/io=some k) w3:=by obtain⟨N,hN⟩:=P.o.st.its;exact zA w3 (w.heap.size+2) io co lo (aU C) N ks (hN.below ak) (λk b=>(P.o.st.ok k b).1) (λk y h=>lC h)
 have R:∀k,io=some k->k<w.heap.size:=λk b=>P.o.st.lt k (τ (by rw[b]));have bc:=ks.lt;have an:∀ys bt:List jB,ny (aU C) ys->bt <+: ys->(ou (ay d) e (ay f) C bt).length<=3072:=λys bt hy hp=>by
  have s:=lI 3072 (ys.map jB.n) hy.1.1 (λk b=>ng (P.o.st.ok k ((hy.1.2 k).1 b)).1);have h2:(ou (ay d) e (ay f) C bt).length<=bt.length:=by unfold ou;rw[ϑh];exact List.length_filter_le _ _
  have h3:=hp.length_le;simp at s;omega
 refine iO (gf:=195) (lb:=#[.pointer (some (z (w.heap.size+2)))]) rfl (enters_of func195 (by kernel_rfl) rfl) Aa (dh.refl _ _) (λk b=>by rcases b with rfl|b;exact bc;have:=R k b;omega) (λ_=>rfl)
  (λT bt W=>Coll w (w.heap.size+1) 143 140 2 (bK (ou (ay d) e (ay f) C bt)) (ou (ay d) e (ay f) C bt).length T W/\aC W w.heap.size #[.string d,.int .u8 (e.toNat:Int),.string f,I i] 85/\¬T w.heap.size) (λ_ _ _ _=>False)
  (λT T' bt W W' h j bv=>⟨h.1.nS j bv,h.2.1.aJ j h.2.2,λb=>by rcases(bv _ b).1 with s|s;exact h.2.2 s;have:=h.2.1.lt;omega⟩) (λ_ _ _ _ _ _ h _ _=>h)
  ⟨⟨_,kf,ϑj _ _ _ _,λh=>h,λ_ _ h=>h,ak,λ_ h=>h.elim,V⟩,kc,λh=>h⟩ ?round ?done ?stop
 case round =>
  rintro l T bt x W bi bv⟨⟨y,L⟩,a6,Y⟩ KL ⟨ys,ar,ap⟩;have bd:x∈ys:=ap.subset Ω;obtain⟨c,j,IQ⟩:=oK (ar.2 x bd);have az:=P.o.ok _ _ j;have a7:=an ys _ ar ap;rw[DL _ _ _ _ _ _ _ j]at a7;have Q:J<|ou (ay d) e (ay f) C (bt++[x])=ou (ay d) e (ay f) C bt++(if yN (ay d) e (ay f) c=true then [x.n]else []):=DL _ _ _ _ _ _ _ j;obtain⟨bu,xp,xa,xv,xm⟩:=x;simp only[sK,Value.agg.injEq]at IQ;simp at IQ;obtain⟨rfl,rfl,rfl,rfl⟩:=IQ;simp only at j a7 Q;gi_wp2;have bo:w.heap.size+2<W.heap.size:=by have:=KL.1;omega
  refine⟨⟨Θ,λk b=>?_⟩, ?_⟩
  .refine(((φ W.heap.size W).alloc (χ _) _).alloc Ω _).block k (b.elim (λh=>?_) (λh=>(bv k h).2));rcases h with rfl|h
   .omega
   .have:=R k h;omega
  intro W2 a4 aq hE2;have aa:∀k,T k->k<W2.heap.size:=λk b=>by rw[aq];have:=(bv k b).2;simp;omega
  have ab:aA T W W2:=(aA.of_below ((((φ W.heap.size W).alloc (χ _) _).alloc Ω _))).trans a4;have a9:=L.nS ab (λk b=>⟨τ b,aa k b⟩);have H:=a6.aJ ab Y;have kd:aC W2 W.heap.size #[I (who bu),I (nth bu)] 140:=((aC.new W _ _).alloc _).aJ a4 (λb=>by have:=(bv _ b).2;omega);have U:aC W2 (W.heap.size+1) #[.string ⟨c.path.toArray⟩,.int .u8 (c.act.toNat:Int),.string (aG c.act ⟨c.val.toArray⟩),I c.n] 85:=by have:=aC.new (W.alloc (.cells #[I (who bu),I (nth bu)] 140)) #[.string ⟨c.path.toArray⟩,.int .u8 (c.act.toNat:Int),.string (aG c.act ⟨c.val.toArray⟩),I c.n] 85;rw[ϊ]at this;exact this.aJ a4 (λb=>by have:=(bv _ b).2;omega)
  have a0:=(H.cell 0).trans rfl;have a1:=(H.cell 1).trans rfl;have a2:=(H.cell 2).trans rfl;have a3:=(H.cell 3).trans rfl;have b0:=(U.cell 0).trans rfl;have b1:=(U.cell 1).trans rfl;have b2:=(U.cell 2).trans rfl;have b3:=(U.cell 3).trans rfl;have af:J<|_:=Oy d f ⟨c.path.toArray⟩ (aG c.act ⟨c.val.toArray⟩) e c.act i c.n m W2 b5 (by show c.path.toArray.size<=_;simpa using az) (b8.o _ a9.below);have ad:=ω a9;have Ti:J<|aC W2 w.heap.size #[.string d,.int .u8 (e.toNat:Int),.string f,I i] 85/\aC W2 W.heap.size #[I (who bu),I (nth bu)] 140:=⟨H,kd⟩;have ae:=ω hE2;have ag:w.heap.size+2<W2.heap.size:=by have:=hE2.1;omega
  clear L a9 a6 H kd U ab a4 aq hE2 KL;gi_wp2_with fail;refine⟨trivial,CallsIn.inRound l ((callsIn_wide.2 af.o).mono ?_)⟩;rintro r F⟨rfl,v⟩;have b4:pI (ay d) e (ay f) (ay ⟨c.path.toArray⟩) c.act (ay (aG c.act ⟨c.val.toArray⟩))=yN (ay d) e (ay f) c:=by unfold yN ay;simp
  rw[b4];have aj:=λk b=>ο (aa k b) v.size;have B:=ω<|ad.o.nS (aA.of_below v) (λk b=>⟨τ b,aj k b⟩)
  have X:=ω<|Ti.o.1.below v
  have Xr:J<|dh (λk=>(k=w.heap.size+2\/io=some k)\/T k) W2 F:=⟨v.size,λk b=>v.block k (b.elim (λh=>by rcases h with rfl|h;exact ag;have:=R k h;omega) (aa k))⟩;have c0:=B.o.bx.cell;have ac:=Ti.o.2.below v;have d0:=(ac.cell 0).trans rfl;have d1:=(ac.cell 1).trans rfl;have av:J<|∀k,(k=w.heap.size+2\/io=some k)->k<F.heap.size/\k≠w.heap.size+1/\y.ownBlock≠some k:=λk b=>by
   have bp:=v.size;have e1:F.heap[k]?=w3.heap[k]?:=(v.block k (by rcases b with rfl|h;exact ag;have:=R k h;omega)).trans (ae.o.2 k b);rcases b with rfl|b
   .refine⟨V,V,ownsRow_ne B.o.row (λah fz r=>?_)⟩;rw[e1,show w3.heap[w.heap.size+2]?=_ from ks]at r;cases r
   .have:=R k b;refine⟨V,V,λr=>?_⟩;have:=(B.o.row.lt k r).1;omega
  clear v ac af a0 a1 a2 a3 b0 b1 b2 b3 ad Ti ae;cases bx:yN (ay d) e (ay f) c with
  | false =>rw[bx]at Q;gi_wp2_with fail;refine⟨⟨?_,X.o,Y⟩,Xr.o⟩;have s:=Q.o;simp only[ϑB,if_false,List.append_nil]at s;rw[s];exact⟨y,B.o⟩
  | true =>
   rw[bx]at Q;have ba:J<|(ou (ay d) e (ay f) C bt).length+1<=maxLen:=by simp only[bx,if_true,ρ,List.length_singleton]at a7;unfold J maxLen;omega
   have b9:J<|((ou (ay d) e (ay f) C bt).length+1)*16<=140737488355328:=by simp only[bx,if_true,ρ,List.length_singleton]at a7;unfold J;omega
   have OT:J<|∀A u,([I (who bu),I (nth bu)]:List Value)[A]?=some u->(F.alloc (.cells #[I (who bu),I (nth bu)] 140)).cell? (((z F.heap.size):Addr).add A)=some u:=λA u bw=>by
    match A,bw with
    | 0,bw=>cases bw;simp[Addr.add]
    | 1,bw=>cases bw;simp[Addr.add]
   have bj:=B.o.below.size;gi_wp2_with (first|(gi_at_builtin;refine wpListIn_append_own_at _ rfl (.tmp 18) (.tmp 20) 143 rfl w.heap.size 140 i0 (.agg #[I 0,I 0]) 2 16 underlying143 hi be bf bg rfl Ψ y _ _ rfl (B.o.row.alloc _) (z F.heap.size) 1 1 [I (who bu),I (nth bu)] rfl rfl OT.o (by simp[Value.oneCell']) ba.o b9.o Θ ?_;intro v' w5 ao al _ b7;have Z:=B.o.ao4 (E:=λk=>k=w.heap.size+2\/io=some k) Ψ ao al b7 aj av.o;obtain⟨g',bh,rfl⟩:=ownsRow_succ ao;have bk:=Z.1.cell;have bl:=Z.1.frozen;have b6:aC w5 w.heap.size #[.string d,.int .u8 (e.toNat:Int),.string f,I i] 85:=(al.block w.heap.size (by simp;have:=X.o.lt;omega) (λr=>ownsRow_ne B.o.row (λah fz e2=>by rw[show F.heap[w.heap.size]?=_ from X.o]at e2;cases e2) r.symm)).trans (X.o.alloc _)));refine⟨⟨?_, ?_,Y⟩,Xr.o.trans Z.2.2⟩
   .have s:=Q.o;simp only[if_true]at s;rw[s,sH,ρ];exact⟨_,Z.2.1⟩
   .exact b6.aJ (M:=λk=>k=w.heap.size+1) ((aA.refl (λk=>k=w.heap.size+1) w5).setCell (p:=(z (w.heap.size+1))) rfl _) V
 case done =>
  rintro D T xs W hD Bv ai⟨⟨y,L⟩,a6,Y⟩ bv hK;have c0:=L.bx.cell;have HC:=ω L;clear L a6;gi_wp2_with fail;refine⟨Ω,.inl ⟨_,_,rfl,run_takeDeferred hK, ?_⟩⟩;have bm:=an xs xs ai (List.prefix_refl _);refine⟨_,results_tmp rfl _ _ _,y,ou (ay d) e (ay f) C xs,rfl, ?_,V,λk=>?_, ?_⟩
  .have a8:=ownsRow_putObj HC.o.row (.deferred none) hK rfl;obtain⟨S,⟨rfl,hn⟩|⟨g,aw,ah,rfl,hg,hh,bb,_⟩⟩:=(id a8:World.ownsRow _ _ _ _ _ _ _)
   .exact τ ⟨rfl,ϑr hn⟩
   .refine υ ⟨g,0,aw,rfl,bb,(a8.lt g rfl).2,λA bw=>?_⟩;have:=wQ _ A bw;rw[Nat.zero_add,a8.cellAt (A*2) V,a8.cellAt (A*2+1) V];exact this
  .unfold ou;simp only[ι,ϑf];constructor
   .rintro⟨x,⟨S,a5⟩,rfl⟩;cases j:C x.n with
    | none=>rw[j]at a5;cases a5
    | some c=>rw[j]at a5;exact⟨c,rfl,a5⟩
   .rintro⟨c,j,bx⟩;have:k∈xs.map jB.n:=(ai.1.2 k).2 (dO.2 (by rw[j];simp));obtain⟨x,S,rfl⟩:=ι.1 this;exact⟨x,⟨S,by rw[j];exact bx⟩,rfl⟩
  .exact(HC.o.nS (T':=T) (eF W D (.deferred none) Bv) (λk b=>⟨τ b,by rw[dL];exact(bv k b).2⟩)).below
 case stop =>rintro D T c bt W _ _ h;exact h.elim
end
section
open Go.Proofs.Tryz Go.RowKit Go.Maps Go.WideMaps
def vH.ctx{w:World}{rb a:Nat}{io co lo:Option Nat}{K:Nat->Nat}{C:Nat->Option Thk.Ch}(h:vH w rb a io co lo K C):ni w (.map co) (.map lo) K (λ_=>false):=h.st.ctx.first (λ_ _=>Iff.rfl)
def mP(w:World)(rb a:Nat)(io co lo:Option Nat)(K:Nat->Nat)(C:Nat->Option Thk.Ch)(b:vH w rb a io co lo K C):Calls prog 38 #[.pointer (some (z rb))] w λe w'=>e=.returned (I (aF K))/\Below w.heap.size w w':=by have f:=(b.blk.cell 1).trans rfl;have g:=(b.blk.cell 2).trans rfl;have h:=(b.blk.cell 3).trans rfl;have c:J<|_:=SX w io co lo K b.ctx;clear b;go_enter func38,ntmps38;go_wp2_with fail;refine ψ c.o ?_;rintro e i⟨rfl,d⟩;go_wp2;go_ret;exact⟨rfl,d⟩
def Xt(w:World)(rb a:Nat)(io co lo:Option Nat)(K:Nat->Nat)(C:Nat->Option Thk.Ch)(b:vH w rb a io co lo K C):Calls prog 77 #[.pointer (some (z rb))] w λe w'=>e=.returned (I (K a))/\Below w.heap.size w w':=by
 have s:=(b.blk.cell 0).trans rfl;have t:=(b.blk.cell 1).trans rfl;have u:=(b.blk.cell 2).trans rfl;have v:=(b.blk.cell 3).trans rfl;have r:=b.blk.lt;have o:=b.nI a;have k:=b.a5;have g:J<|∀c,Below w.heap.size w c->Calls prog 78 #[.agg #[.map io,.map co,.map lo],I a] c λe w'=>e=.returned (.agg #[I a,I ((K a+1:Nat):Int)])/\Below w.heap.size w w':=λc d=>by refine ψ (KH c io co lo a K (b.below d).ctx k) ?_;rintro e w'⟨rfl,m⟩;exact⟨rfl,d.trans (m.mono d.size)⟩
 have f:J<|∀c,Below w.heap.size w c->c.cell? (z rb)=some (I a)/\c.cell? (O rb 1)=some (.map io)/\c.cell? (O rb 2)=some (.map co)/\c.cell? (O rb 3)=some (.map lo):=λc d=>⟨((b.blk.below d).cell 0).trans rfl,((b.blk.below d).cell 1).trans rfl,((b.blk.below d).cell 2).trans rfl,((b.blk.below d).cell 3).trans rfl⟩;have l:Below w.heap.size w w.drew:=(φ _ w).drew;obtain⟨n,h⟩:∃n,K a=n:=⟨_,rfl⟩;rw[h]at g o⊢;clear h;have q:=QM (a:Int) ((n:Int)+1);have j:IntKind.i64.wrap ((n:Int)+1-1)=(n:Int):=by rw[wrap_in _ V V];omega
 clear b;go_enter func77,ntmps77;go_wp2_with fail;go_region_held3 (λw'=>Below w.heap.size w w'/\w'.cell? (z rb)=some (I a)/\w'.cell? (O rb 1)=some (.map io)/\w'.cell? (O rb 2)=some (.map co)/\w'.cell? (O rb 3)=some (.map lo)) ((refine⟨?_, ?_, ?_, ?_, ?_⟩<;>(first|assumption|(exact(f.o _ Φ).1)|(exact(f.o _ Φ).2.1)|(exact(f.o _ Φ).2.2.1)|(exact(f.o _ Φ).2.2.2)))) (first|(go_at_call 78;refine ψ (g.o _ l) ?_;rintro e x⟨rfl,p⟩));go_wp2_with fail;go_ret;have i:IntKind.i64.wrap (n:Int)=(n:Int):=wrap_in _ V V;refine⟨?_,Φ⟩;first|(simp[i];done)|(simp[j];done)|(rw[i])|(rw[j])|trace_state
def iD(C:Nat->Option Thk.Ch)(c:Thk.Ch)(d:Nat):Nat->Option Thk.Ch:=λk =>
 if k=d then(if jq c.act=true then some c else none) else(match C k with|some e=>if yN c.path c.act (ay (aG c.act ⟨c.val.toArray⟩)) e=true then none else some e|none=>none)
def LZ{C:Nat->Option Thk.Ch}{c:Thk.Ch}{K:Nat->Nat}{d:Nat}{ns:List Nat}{s1 s2 s3:jF}{It:Nat->Option Value}(r:∀k,C k≠none->1<=nth k/\nth k<=K (who k))(E:nth d=K (who d)+1)(p:∀k,k∈ns↔∃e,C k=some e/\yN c.path c.act (ay (aG c.act ⟨c.val.toArray⟩)) e=true)(x:s1.S=λk=>nth k<=K (who k))(u:s1.It=aU C)(n:s2.S=λk=>k∈ns)(i2:s2.It=λ_=>none)(y:s3.S=λk=>k=d)(w:s3.It=λk=>if k=d/\jq c.act=true then some (sK c)else none)(l:∀k v,It k=some v->(∃s∈[s1,s2,s3],s.It k=some v)/\¬dA [s1,s2,s3] k)(B:∀k,(∃s∈[s1,s2,s3],s.It k≠none)->¬dA [s1,s2,s3] k->It k≠none):It=aU (iD C c d)/\∀k,1<=nth k->((∃s∈[s1,s2,s3],s.S k)↔nth k<=inc K (who d) (who k)):=by
 have j:∀(Q:jF->Prop),(∃s∈[s1,s2,s3],Q s)↔Q s1\/Q s2\/Q s3:=λQ=>Ω
 have m:∀k,dA [s1,s2,s3] k↔(C k=none/\nth k<=K (who k))\/k∈ns\/(k=d/\¬jq c.act=true):=λk=>by
  unfold dA;rw[j];simp only[x,u,n,i2,y,w,aU];constructor
  .rintro(⟨a,b⟩|⟨_,b⟩|⟨a,b⟩)
   .exact τ ⟨by simpa using a,b⟩
   .exact υ (τ b)
   .refine υ (υ ⟨b,λh=>?_⟩);rw[ώ ⟨b,h⟩]at a;cases a
  .rintro(⟨a,b⟩|b|⟨a,b⟩)
   .exact τ ⟨by simpa using a,b⟩
   .exact υ (τ ⟨Ω,b⟩)
   .exact υ (υ ⟨ύ (λh=>b h.2),a⟩)
 have t:∀k v,(∃s∈[s1,s2,s3],s.It k=some v)↔(aU C k=some v)\/(k=d/\jq c.act=true/\v=sK c):=λk v=>by
  rw[j];simp only[u,i2,w];constructor
  .rintro(h|h|h)
   .exact τ h
   .cases h
   .split at h
    .rename_i hh;cases h;exact υ ⟨hh.1,hh.2,rfl⟩
    .cases h
  .rintro(h|⟨a,b,rfl⟩)
   .exact τ h
   .exact υ (υ (ώ ⟨a,b⟩))
 have A:C d=none:=by
  cases h:C d with
  | none=>rfl
  | some e=>have:=r d (by rw[h];simp);omega
 constructor
 .funext k;unfold aU iD;by_cases g:k=d
  .subst g;rw[ώ rfl];by_cases i:jq c.act=true
   .rw[ώ i];have q:¬dA [s1,s2,s3] k:=by
     rw[m];rintro(⟨_,h⟩|h|⟨_,h⟩)
     .omega
     .obtain⟨e,a,_⟩:=(p _).1 h;rw[A]at a;cases a
     .exact h i
    obtain⟨v,f⟩:=Option.ne_none_iff_exists'.1 (B k ((j _).2 (υ (υ (by rw[w];simp[i])))) q);rw[f];rcases(t _ _).1 (l _ _ f).1 with h|⟨_,_,rfl⟩
    .simp[aU,A]at h
    .rfl
   .rw[ύ i];cases f:It k with
    | none=>rfl
    | some v=>exact absurd ((m _).2 (υ (υ ⟨rfl,i⟩))) (l _ _ f).2
  .rw[ύ g];cases hCk:C k with
   | none =>
    cases f:It k with
    | none=>rfl
    | some v =>
     rcases(t _ _).1 (l _ _ f).1 with h|⟨h,_⟩
     .simp[aU,hCk]at h
     .exact absurd h g
   | some e =>
    have F:=r k (by rw[hCk];simp);by_cases o:yN c.path c.act (ay (aG c.act ⟨c.val.toArray⟩)) e=true
    .simp only[o,if_true];cases f:It k with
     | none=>rfl
     | some v=>exact absurd ((m _).2 (υ (τ ((p k).2 ⟨e,hCk,o⟩)))) (l _ _ f).2
    .simp only[o];have q:¬dA [s1,s2,s3] k:=by
      rw[m];rintro(⟨h,_⟩|h|⟨h,_⟩)
      .rw[hCk]at h;cases h
      .obtain⟨D,a,b⟩:=(p k).1 h;rw[hCk]at a;cases a;exact o b
      .exact g h
     obtain⟨v,f⟩:=Option.ne_none_iff_exists'.1 (B k ((j _).2 (τ (by rw[u];simp[aU,hCk]))) q);rw[f];rcases(t _ _).1 (l _ _ f).1 with h|⟨h,_⟩
     .simp[aU,hCk]at h;simp[h]
     .exact absurd h g
 .intro k g;rw[j];simp only[x,n,y];constructor
  .rintro(h|h|h)
   .by_cases e:who k=who d
    .rw[e,dU];rw[e]at h;omega
    .rw[gQ e];exact h
   .obtain⟨e,a,_⟩:=(p k).1 h;have:=(r k (by rw[a];simp)).2;by_cases e:who k=who d
    .rw[e,dU];rw[e]at this;omega
    .rw[gQ e];exact this
   .rw[h,dU];omega
  .intro h;by_cases e:who k=who d
   .rw[e,dU]at h;by_cases n:nth k=nth d
    .exact υ (υ (mJ e n))
    .exact τ (by rw[e];omega)
   .rw[gQ e]at h;exact τ h
