import Derived.Lib.ItoaLen
import Derived.Test.YtfmmllpjgkgeaaaGreatDoorPartS01
set_option linter.unusedVariables false
set_option linter.unusedSimpArgs false
set_option maxHeartbeats 16000000
set_option maxRecDepth 100000
namespace Go.Proofs.YtfmmllpjgkgeaaaGreatDoor
section
open Go.Proofs.Tryz Go.RowKit
variable{xs:List Value}{B b:Nat}{M:Nat->Prop}{t:TypeId}{v:Value}{a c w w':World}
theorem bC.form(h:bC B w v xs):∃d c,v=.slice d xs.length c/\xs.length<=c/\(0<xs.length->∃b a,d=some (O b a)/\b<B/\∀j(h:j<xs.length),w.cell? (O b (a+j))=some xs[j]):=by
 rcases h with⟨rfl,rfl⟩|⟨b,a,c,e,f,g,i⟩
 .exact⟨none,0,rfl,χ _,λh=>by simp at h⟩
 .exact⟨some (O b a),c,e,f,λ_=>⟨b,a,rfl,g,i⟩⟩
structure RH where
 l:List Thk.Bs
 sum:Int
 some:Bool
def kJ(k:UInt8)(path:Thk.Bs)(st:RH)(e:Ev):RH :=
 if((k.toNat:Int)==109)&&Thk.begins (toL e.p) path&&!(toL e.p==path) then⟨iF st.l ((Thk.split 47 ((toL e.p).drop (path.length+1))).headD []),st.sum,st.some⟩
 else if toL e.p==path then⟨iF st.l (toL e.v),st.sum+e.n,true⟩else st
def tK(k:UInt8)(st:RH):Thk.Bs :=
 if(k.toNat:Int)=102 then(if st.some then [49]else [48])else if(k.toNat:Int)=99 then Thk.digits st.sum else Thk.fU st.l st.l.length
def tellR(es:List Ev)(al:List Nat)(path:Thk.Bs):Thk.Bs :=
 tK (Thk.kindOf path) (al.foldl (λst j=>match es[j]? with|some e=>kJ (Thk.kindOf path) path st e|none=>st) ⟨[],0,false⟩)
def fB(es:List Ev)(k:UInt8)(path:Thk.Bs)(al:List Nat):RH:=al.foldl (λst j=>match es[j]? with|some e=>kJ k path st e|none=>st) ⟨[],0,false⟩
theorem Em(es:List Ev)(k:UInt8)(path:Thk.Bs)(a:List Nat)(i:Nat)(h:i<a.length)(e:Ev)(b:es[a[i]]?=some e):fB es k path (a.take (i+1))=kJ k path (fB es k path (a.take i)) e:=by unfold fB;rw[xw _ _ _ i h,b]
structure EvOk(e:Ev):Prop where
 p:e.p.size<=20
 v:e.v.size<=20
 n1:e.n<=1000000000
 n2:-1000000000<=e.n
 s:e.saw.length<=1000
structure Kz(B:Nat)(w:World)(es:List Ev)(k:UInt8)(path:Thk.Bs)(al:List Nat)(i:Nat)(lv:Value)(sum:Int)(sm:Bool)(wr:World):Prop where
 below:Below B w wr
 own:∃ss:List ByteArray,bC wr.heap.size wr lv (strs ss)/\ss.map toL=(fB es k path (al.take i)).l/\ss.length<=i/\∀s∈ss,s.size<=1000
 hsum:sum=(fB es k path (al.take i)).sum
 b1:sum<=1000000000*i
 b2:-(1000000000*i)<=sum
 hsome:sm=(fB es k path (al.take i)).some
theorem Kz.next{wr:World}{es:List Ev}{k:UInt8}{path:Thk.Bs}{c:List Nat}{i:Nat}{f:Value}{j:Int}{g:Bool}(h:Kz w.heap.size w es k path c i f j g wr)(d:fB es k path (c.take (i+1))=fB es k path (c.take i))(o:ϑ w w')(e:ϑ wr w'):Kz w.heap.size w es k path c (i+1) f j g w':=by obtain⟨p,l,m,q,n⟩:=h.own;have a:=h.b1;have b:=h.b2;exact⟨o,⟨p,(l.below e).mono e.size,by rw[d];exact m,V,n⟩,by rw[d];exact h.hsum,V,V,by rw[d];exact h.hsome⟩
theorem Tell_any(B:Nat)(a3:Value)(es:List Ev)(av:Value)(d:List Nat)(path:ByteArray)(w:World)(hB:B<=w.heap.size)(hn:es.length<=1000)(ae:EvsIn B w a3 es)(aa:bC w.heap.size w av (nats d))(a9:∀j∈d,j<es.length)(b6:d.length<=1000)(hz:∀bj∈es,EvOk bj)(ai:path.size<=1048576)(hp:Thk.path (toL path)=true):Calls prog 174 #[a3,av,.string path] w λbj w'=>∃t,bj=.returned (.string t)/\toL t=tellR es d (toL path)/\ϑ w w':=by
 have Va:J<|0<es.length->∃b bh P,a3=.slice (some (O b bh)) es.length P/\es.length<=P/\∀wr,ϑ w wr->∀j(bi:j<es.length),∃y H x,
   wr.cell? (O b (bh+j*5))=some (.string es[j].p)/\wr.cell? (O b (bh+j*5+1))=some (.int .u8 (es[j].a.toNat:Int))/\wr.cell? (O b (bh+j*5+2))=some (.string es[j].v) /\
   wr.cell? (O b (bh+j*5+3))=some (.int .i64 es[j].n)/\wr.cell? (O b (bh+j*5+4))=some (.slice y H x):=by
  intro bk;rcases ae with⟨_,E⟩|⟨b,bh,P,h1,E,o,h4⟩
  .rw[E]at bk;simp at bk
  .refine⟨b,bh,P,h1,E,λwr F j bi=>?_⟩;obtain⟨sv,c0,c1,c2,c3,c4,c5⟩:=h4 j bi;have Q:=F.mono hB;obtain⟨y,x,rfl,_,_⟩:=c5.form;exact⟨y,_,x,(Q.cell (p:=(O b _)) o).trans c0,(Q.cell (p:=(O b _)) o).trans c1,(Q.cell (p:=(O b _)) o).trans c2,(Q.cell (p:=(O b _)) o).trans c3,(Q.cell (p:=(O b _)) o).trans c4⟩
 have Hz:J<|_:=hz;have Hp:J<|_:=hp;have ak:J<|_:=a9;obtain⟨ao,ac,rfl,an,R⟩:=aa.form;have af:(nats d).length=d.length:=by simp[nats]
 rw[af]at an⊢;have Hc:J<|0<d.length->∃b bh,ao=some (O b bh)/\∀(wr:World),ϑ w wr->∀j(bi:j<d.length),wr.cell? (O b (bh+j))=some (.int .i64 (d[j])):=by intro bk;obtain⟨b,bh,h1,E,o⟩:=R V;refine⟨b,bh,h1,λwr F j bi=>?_⟩;rw[F.cell (p:=(O b (bh+j))) E,o j V];simp[nats]
 clear ae hz hp a9 aa R af;go_enter func174,ntmps174;go_wp2_with fail;refine(Ar path _ ai Hp.o).mono ?_;rintro bj w1⟨rfl,ap⟩;have KA:J<|tellR es d (toL path)=tK (Thk.kindOf (toL path)) (fB es (Thk.kindOf (toL path)) (toL path) d):=rfl;generalize Thk.kindOf (toL path)=f at *;go_wp2;go_loopw [7,8,9,11] (λl s m i wr=>∃(k:Nat)(n:Int)(D:Bool),k<=d.length/\i=.int .i64 k/\s=.int .i64 n/\m=.bool D/\Kz w.heap.size w es f (toL path) d k l n D wr) (λ_ _ _ i _=>d.length-(intOf i).toNat);case atStart=>exact⟨0,0,false,V,rfl,rfl,rfl,ap,⟨[],τ ⟨rfl,rfl⟩,rfl,Ω,Ω⟩,rfl,Ω,Ω,rfl⟩
 case round =>
  obtain⟨k,n,D,hk,rfl,rfl,rfl,hI⟩:=hrel;have e:J<|_:=hI;clear hI;by_cases a4:k<d.length
  .obtain⟨ab,YI,rfl,Gj⟩:=Hc.o V;have ar:=Gj _ e.o.below k a4;have hj:d[k]<es.length:=ak.o _ (κ a4);obtain⟨b,bh,P,rfl,b9,a7⟩:=Va.o V;obtain⟨y,H,x,c0,c1,c2,c3,c4⟩:=a7 _ e.o.below d[k] hj;have C:=Hz.o _ (κ hj);have G:J<|_:=Em es f (toL path) d k a4 _ (σ hj);clear Gj a7;generalize d[k]=j at *;generalize es[j]=c at *;go_wp2_with fail;refine(sZ _ _ _ (by have:=C.p;omega) ai).mono ?_;rintro bj w2⟨rfl,rfl⟩;have F:=e.o.below.alloc e.o.below.size (.cells #[.string c.p,.int .u8 (c.a.toNat:Int),.string c.v,.int .i64 c.n,.slice y H x] 239);have YJ:J<|ϑ w (wr.alloc (.cells #[.string c.p,.int .u8 (c.a.toNat:Int),.string c.v,.int .i64 c.n,.slice y H x] 239)):=F;clear F c0 c1 c2 c3 c4 ar;have b3:=C.p;have b4:=C.v;have be:=C.n1;have bf:=C.n2;have b7:=e.o.b1;have b8:=e.o.b2;cases q3:(c.p.toList==path.toList)
   .cases q1:((f.toNat:Int)==109)
    .have h:J<|fB es f (toL path) (d.take (k+1))=fB es f (toL path) (d.take k):=ω<|by rw[G.o];unfold kJ;rw[q1,ύ Ω,ύ (by rw[toList_eq,toList_eq]at q3;rw[show(toL c.p==toL path)=false from q3];simp)]
     generalize Thk.begins c.p.data.toList path.data.toList=bg;go_wp2;go_roundw;case rel=>exact⟨k+1,n,D,V,Λ,rfl,rfl,e.o.next h.o YJ.o (φ _ _ |>.alloc (χ _) _)⟩
     case measure=>simp[intOf];omega
    .cases q2:Thk.begins c.p.data.toList path.data.toList
     .have h:J<|fB es f (toL path) (d.take (k+1))=fB es f (toL path) (d.take k):=ω<|by rw[G.o];unfold kJ;rw[q1,show Thk.begins (toL c.p) (toL path)=false from q2,ύ Ω,ύ (by rw[toList_eq,toList_eq]at q3;rw[show(toL c.p==toL path)=false from q3];simp)]
      go_wp2;go_roundw;case rel=>exact⟨k+1,n,D,V,Λ,rfl,rfl,e.o.next h.o YJ.o (φ _ _ |>.alloc (χ _) _)⟩
      case measure=>simp[intOf];omega
     .have bd:path.size<c.p.size:=by rw[toList_eq,toList_eq]at q3;unfold Thk.begins at q2;rw[q3]at q2;simp only[Bool.false_or,γ,decide_eq_true_eq]at q2;have:=q2.1.1;simpa using this
      have h:J<|fB es f (toL path) (d.take (k+1))=⟨iF (fB es f (toL path) (d.take k)).l ((Thk.split 47 ((toL c.p).drop (path.size+1))).headD []),(fB es f (toL path) (d.take k)).sum,(fB es f (toL path) (d.take k)).some⟩:=ω<|by rw[G.o];unfold kJ;rw[q1,show Thk.begins (toL c.p) (toL path)=true from q2,ώ (by rw[toList_eq,toList_eq]at q3;rw[show(toL c.p==toL path)=false from q3];rfl),toL_length]
      obtain⟨A,q,bl,aj,u⟩:=e.o.own;have L:J<|bC wr.heap.size wr u7 (strs A):=q;have S:J<|_:=bl;have M:J<|_:=u;clear q bl u G C;have N:J<|ϑ wr (wr.alloc (.cells #[.string c.p,.int .u8 (c.a.toNat:Int),.string c.v,.int .i64 c.n,.slice y H x] 239)):=(φ _ _).alloc (χ _) _;go_wp2_with fail;refine(qj _ 47 _ (by simp[ByteArray.size_extract];omega)).mono ?_;rintro bj w3⟨v3,v,rfl,ag,W,b5,Vg,a0⟩;have U:J<|ϑ wr w3:=N.o.trans (a0.mono Ω);have YK:J<|_:=W;have a5:v≠[]:=by intro bi;rw[bi]at W;exact Thk.fP _ _ W.symm
      have bk:0<v.length:=List.length_pos_iff.2 a5;have b2:J<|∀p∈v,p.size<=1000:=λp hp=>by have:=Vg p hp;simp[ByteArray.size_extract]at this;omega
      rcases mW ag with⟨rfl,E,o⟩|⟨g,cp,rfl,bb,ba,hg,bc,b1,R⟩
      .omega
      .have aq:=R 0 (by simpa[strs]using bk);have ad:(strs v)[0]'(by simpa[strs]using bk)=.string (v[0]'bk):=by simp[strs]
       rw[ad]at aq;have az:=b2.o _ (κ bk);have Hh:J<|(Thk.split 47 ((toL c.p).drop (path.size+1))).headD []=toL (v[0]'bk):=by
        have e1:toL (c.p.extract (path.size+1) c.p.size)=(toL c.p).drop (path.size+1):=by rw[cu,<- toL_length c.p,List.take_length]
        unfold J;rw[<- e1,<- YK.o];cases v with
        | nil=>exact absurd rfl a5
        | cons a r=>rfl
       generalize v[0]'bk=q0 at *;clear R ad ag W Vg a5 b1 a0;go_wp2_with fail;refine(Au wr.heap.size _ A q0 _ V (L.o.below U.o) U.o.size).mono ?_;rintro bj w5⟨v5,YL,rfl,a2,X,T,ax,a1⟩;have Z:ϑ w w5:=(e.o.below.trans (U.o.mono e.o.below.size)).trans (a1.mono (ς e.o.below.size U.o.size));go_wp2;go_roundw;case rel =>
        refine⟨k+1,n,D,V,Λ,rfl,rfl,Z,⟨YL,xu a2, ?_,V, ?_⟩, ?_,V,V, ?_⟩
        .rw[h.o,X,S.o,Hh.o]
        .intro s hs;rcases T s hs with bi|bi
         .exact M.o s bi
         .rw[bi];exact az
        .rw[h.o];exact e.o.hsum
        .rw[h.o];exact e.o.hsome
       case measure=>simp[intOf];omega
   .have YM:((f.toNat:Int)==109&&Thk.begins c.p.data.toList path.data.toList&&!(c.p.toList==path.toList))=false:=by rw[q3];simp
    have h:J<|fB es f (toL path) (d.take (k+1))=⟨iF (fB es f (toL path) (d.take k)).l (toL c.v),(fB es f (toL path) (d.take k)).sum+c.n,true⟩:=by rw[toList_eq,toList_eq]at q3;unfold J;rw[G.o];unfold kJ;rw[show(toL c.p==toL path)=true from q3,ύ Ω,ώ rfl]
    obtain⟨A,q,bl,aj,u⟩:=e.o.own;have L:J<|bC wr.heap.size wr u7 (strs A):=q;have S:J<|_:=bl;have M:J<|_:=u;clear q bl u G C YM;have N:J<|ϑ wr (wr.alloc (.cells #[.string c.p,.int .u8 (c.a.toNat:Int),.string c.v,.int .i64 c.n,.slice y H x] 239)):=(φ _ _).alloc (χ _) _;generalize Thk.begins c.p.data.toList path.data.toList=bg;cases bg<;>cases q1:((f.toNat:Int)==109)
    all_goals
     go_wp2_with fail;refine(Au wr.heap.size _ A c.v _ V (L.o.below N.o) N.o.size).mono ?_;rintro bj w5⟨v5,YL,rfl,a2,X,T,ax,a1⟩;have Z:ϑ w w5:=YJ.o.trans (a1.mono (ς e.o.below.size N.o.size));have a8:Kz w.heap.size w es f (toL path) d (k+1) v5 (n+c.n) true w5:=by
      refine⟨Z,⟨YL,xu a2, ?_,V, ?_⟩, ?_,V,V, ?_⟩
      .rw[h.o,X,S.o]
      .intro s hs;rcases T s hs with bi|bi
       .exact M.o s bi
       .rw[bi];omega
      .rw[h.o,e.o.hsum]
      .rw[h.o]
     have a6:J<|_:=a8;clear a2 X T a1 a8 Z;go_wp2;go_roundw;case rel=>first|exact⟨k+1,n+c.n,true,V,Λ,rfl,rfl,a6.o⟩|((repeat apply Exists.intro);exact⟨⟨k+1,n+c.n,true,V,Λ,rfl,rfl,a6.o⟩,rfl⟩)
     case measure=>simp[intOf];omega
  .have aw:k=d.length:=V
   subst aw;have h:J<|(fB es f (toL path) (d.take d.length))=fB es f (toL path) d:=ω<|by rw[List.take_length]
   by_cases K:(f.toNat:Int)=102
   .have hd:((f.toNat:Int)==102)=true:=by rw[K];(first|done|rfl)
    cases D;all_goals
     go_wp2;go_ret;refine⟨_,rfl, ?_,e.o.below⟩;rw[KA.o];unfold tK;rw[ώ K,<- h.o,<- e.o.hsome];(first|done|rfl)
   .have hd:((f.toNat:Int)==102)=false:=by simpa using K
    by_cases Y:(f.toNat:Int)=99
    .have hd2:((f.toNat:Int)==99)=true:=by rw[Y];(first|done|rfl)
     go_wp2_with fail;refine(Eh n _ (by have:=e.o.b1;have:=e.o.b2;omega)).mono ?_;rintro bj w3⟨t,rfl,ht,b0,a0⟩;go_wp2;go_ret;refine⟨t,rfl, ?_,e.o.below.trans (a0.mono e.o.below.size)⟩;rw[KA.o,ht];unfold tK;rw[ύ K,ώ Y,<- h.o,<- e.o.hsum]
    .have hd2:((f.toNat:Int)==99)=false:=by simpa using Y
     obtain⟨A,q,bl,aj,u⟩:=e.o.own;have L:J<|bC wr.heap.size wr u7 (strs A):=q;have S:J<|_:=bl;have M:J<|_:=u;clear q bl u;go_wp2_with fail;refine(Ef _ _ A _ V M.o L.o).mono ?_;rintro bj w3⟨t,rfl,ht,b0,rfl⟩;go_wp2;go_ret;refine⟨t,rfl, ?_,e.o.below⟩;rw[KA.o,ht];unfold tK;rw[ύ K,ύ Y,<- h.o,<- S.o];simp
structure Chg(M:Nat->Prop)(w w':World):Prop where
 os:w'.os=w.os
 tape:w'.tape=w.tape
 output:w'.output=w.output
 size:w.heap.size<=w'.heap.size
 block:∀k,k<w.heap.size->¬M k->w'.heap[k]?=w.heap[k]?
theorem Chg.refl(M:Nat->Prop)(w:World):Chg M w w:=⟨rfl,rfl,rfl,χ _,λ_ _ _=>rfl⟩
theorem Chg.trans{b:World}(h:Chg M a b)(k:Chg M b c):Chg M a c :=
 ⟨k.os.trans h.os,k.tape.trans h.tape,k.output.trans h.output,ς h.size k.size,λi d e=>(k.block i (ο d h.size) e).trans (h.block i d e)⟩
theorem Chg.mono{N:Nat->Prop}{b:World}(h:Chg M a b)(d:∀k,k<a.heap.size->M k->N k):Chg N a b:=⟨h.os,h.tape,h.output,h.size,λk c f=>h.block k c λe=>f (d k c e)⟩
theorem Chg.of_below{b:World}(h:ϑ a b):Chg M a b:=⟨h.os,h.tape,h.output,h.size,λk c _=>h.block k c⟩
theorem Chg.setCell(h:Chg M a w){p:Addr}(d:M p.block)(u:Value):Chg M a (w.setCell p u) :=
 ⟨h.os,h.tape,h.output,by simpa[World.setCell]using h.size,λk c b=>(Below.heap_setCell w p u k (λe=>b (by rw[e];exact d))).trans (h.block k c b)⟩
theorem Chg.below{b:World}(h:Chg M a b)(d:ϑ b c):Chg M a c:=h.trans (Chg.of_below d)
theorem Chg.grown{b:World}{row:Option Nat}(h:Chg M a b)(d:b.grownBy c row)(j:∀k,row=some k->M k\/a.heap.size<=k):Chg M a c :=
 ⟨d.os.trans h.os,d.tape.trans h.tape,d.output.trans h.output,ς h.size d.size,λk f g=>(d.block k (ο f h.size) (λi=>by rcases j k i.symm with e|e;exact g e;omega)).trans (h.block k f g)⟩
def Tagged(w:World)(b:Nat)(t:TypeId):Prop:=∃cur,w.heap[b]?=some (.cells cur t (0,0))
theorem Tagged.lt(h:Tagged w b t):b<w.heap.size:=by
 obtain⟨c,h⟩:=h;rcases Nat.lt_or_ge b w.heap.size with a|a
 .exact a
 .rw[Array.getElem?_eq_none a]at h;cases h
theorem Tagged.ne{c:Nat}{s:TypeId}(h:Tagged w b s)(k:Tagged w c t)(a:s≠t):b≠c:=by rintro rfl;obtain⟨x,h⟩:=h;obtain⟨y,k⟩:=k;rw[h]at k;cases k;exact a rfl
theorem Tagged.chg(h:Tagged w b t)(c:Chg M w w')(d:¬M b):Tagged w' b t:=by obtain⟨x,a⟩:=h;exact⟨x,(c.block b (Tagged.lt ⟨x,a⟩) d).trans a⟩
theorem Tagged.frozen(h:Tagged w b t)(j:Nat):w.frozen? (O b j)=false:=by obtain⟨x,a⟩:=h;simp[World.frozen?,a]
theorem Tagged.setCell(h:Tagged w b t)(p:Addr)(u:Value):Tagged (w.setCell p u) b t:=by
 obtain⟨x,a⟩:=h;by_cases e:b=p.block
 .subst e;simp only[Tagged,World.setCell,μ,a];simp
 .exact⟨x,by rw[Below.heap_setCell _ _ _ _ e];exact a⟩
theorem Tagged.below(h:Tagged w b t)(c:ϑ w w'):Tagged w' b t:=by obtain⟨x,a⟩:=h;exact⟨x,(c.block b (Tagged.lt ⟨x,a⟩)).trans a⟩
def SliceT(t:TypeId)(w:World)(v:Value)(xs:List Value):Prop :=
 (v=.slice none 0 0/\xs=[]) \/
  ∃b off cap,v=.slice (some (O b off)) xs.length cap/\xs.length<=cap/\Tagged w b t/\∀j(h:j<xs.length),w.cell? (O b (off+j))=some xs[j]
theorem SliceT.toIn(h:SliceT t w v xs):bC w.heap.size w v xs:=by
 rcases h with h|⟨b,g,a,c,d,e,f⟩
 .exact τ h
 .exact υ ⟨b,g,a,c,d,e.lt,f⟩
theorem SliceT.chg(h:SliceT t w v xs)(c:Chg M w w')(d:∀b,Tagged w b t->¬M b):SliceT t w' v xs:=by
 rcases h with h|⟨b,l,e,f,g,a,i⟩
 .exact τ h
 .exact υ ⟨b,l,e,f,g,a.chg c (d b a),λk j=>(η (w:=w) (c.block b a.lt (d b a))).trans (i k j)⟩
theorem SliceT.shape(h:SliceT t w v xs):∃a cap,v=.slice a xs.length cap/\xs.length<=cap:=by
 rcases h with⟨rfl,rfl⟩|⟨b,g,cap,c,d,e,f⟩
 .exact⟨none,0,rfl,χ _⟩
 .exact⟨_,cap,c,d⟩
theorem own_sliceT{e:TypeId}{n:Nat}(h:w.ownsRow B e 1 v n xs):SliceT e w v xs:=by
 have d:=h;obtain⟨a,h|⟨g,b,c,rfl,l,f,k,m,o,p⟩⟩:=h
 .exact τ ⟨h.1,List.eq_nil_of_length_eq_zero (by rw[a,h.2])⟩
 .refine υ ⟨g,0,b,by rw[a,Nat.mul_one],V,⟨c,f⟩,λj i=>?_⟩;rw[Nat.zero_add,d.cellAt j V,σ i]
theorem cs_same{o:Nat}{u:Value}(h:w.cell? (O b o)=some u):(w.setCell (O b o) v).cell? (O b o)=some v:=by apply World.cell?_setCell_same';rw[h];(first|done|rfl)
theorem cs_oth{o a c:Nat}(h:b≠a\/o≠c):(w.setCell (O b o) v).cell? (O a c)=w.cell? (O a c):=by apply World.cell?_setCell_other;intro e;cases e;rcases h with h|h<;>exact h rfl
theorem ownsRow_chg{e:TypeId}{n size:Nat}(h:w.ownsRow B e size v n xs)(i:Chg M w w')(l:∀g,v.ownBlock=some g->¬M g):w'.ownsRow B e size v n xs:=by
 have d:=h;obtain⟨a,f|⟨g,b,c,rfl,j,k,r⟩⟩:=h
 .exact⟨a,τ f⟩
 .exact⟨a,υ ⟨g,b,c,rfl,j,(i.block g (d.lt g rfl).2 (l g rfl)).trans k,r⟩⟩
def evCells(es:List Ev)(svs:List Value):List Value:=(es.zip svs).flatMap λ(e,sv)=>[.string e.p,.int .u8 (e.a.toNat:Int),.string e.v,.int .i64 e.n,sv]
def ints(l:List Int):List Value:=l.map (Value.int .i64)
structure RepZ(w:World)(rb off:Nat):Prop where
 c2:w.cell? (O rb (off+2))=some (.slice none 0 0)
 c3:w.cell? (O rb (off+3))=some (.slice none 0 0)
 c4:w.cell? (O rb (off+4))=some (.bool false)
 c5:w.cell? (O rb (off+5))=some (.int .i64 0)
 c6:w.cell? (O rb (off+6))=some (.int .i64 0)
 c8:w.cell? (O rb (off+8))=some (.int .i64 0)
theorem RepZ.of{rb off:Nat}(h:RepZ w rb off)(a:∀i,i=2\/i=3\/i=4\/i=5\/i=6\/i=8->w'.cell? (O rb (off+i))=w.cell? (O rb (off+i))):RepZ w' rb off :=
 ⟨(a 2 Ω).trans h.c2,(a 3 Ω).trans h.c3,(a 4 Ω).trans h.c4,(a 5 Ω).trans h.c5,(a 6 Ω).trans h.c6,(a 8 Ω).trans h.c8⟩
theorem SliceT.below(h:SliceT t w v xs)(a:ϑ w w'):SliceT t w' v xs:=h.chg (M:=λ_=>False) (Chg.of_below a) (λ_ _ h=>h)
end
section
open Go.Proofs.Tryz
structure FrD where
 src:Nat
 dst:Nat
 ack:Nat
 known:List Bool
 bytes:ByteArray
def bothL(a b:List Bool):List Bool:=(List.range (max a.length b.length)).map λk=>a.getD k false||b.getD k false
theorem getD_len{known:List Bool}{j:Nat}(a:known.length<=j):known.getD j false=false:=by rw[ξ,List.getElem?_eq_none a];(first|done|rfl)
theorem bU(a b:List Bool)(i:Nat):(bothL a b).getD i false=(a.getD i false||b.getD i false):=by
 unfold bothL;by_cases h:i<max a.length b.length
 .rw[ξ,List.getElem?_map,List.getElem?_range h];rfl
 .rw[getD_len Θ,getD_len (known:=a) V,getD_len (known:=b) V];(first|done|rfl)
theorem gJ(a b:List Bool):(bothL a b).length=max a.length b.length:=by unfold bothL;simp
end
namespace Thk
open Go.Proofs.Tryz
def fits(k a:UInt8):Bool :=
 if k.toNat=115 then a.toNat==43||a.toNat==45||a.toNat==33
 else if k.toNat=102 then a.toNat==94||a.toNat==95||a.toNat==33
 else if k.toNat=114 then a.toNat==61||a.toNat==33
 else if k.toNat=99 then a.toNat==62||a.toNat==33
 else a.toNat==33
structure Ch where
 path:Bs
 act:UInt8
 val:Bs
 n:Int
def operand(p:Bs)(a:UInt8)(v:Bs):Nat ⊕ Ch :=
 if a.toNat=43\/a.toNat=45\/a.toNat=61 then(if val v then .inr ⟨p,a,v,0⟩else .inl 5)
 else if a.toNat=62 then(match num v with|some n=>.inr ⟨p,a,v,n⟩|none=>.inl 5)
 else if v=[]then .inr ⟨p,a,v,0⟩else .inl 5
def eH(l:Bs)(k:Nat):Nat ⊕ Ch :=
 if path (l.take k)=false then .inl 4
 else if fits (kindOf (l.take k)) (l.getD k 0)=false then .inl 6
 else operand (l.take k) (l.getD k 0) (l.drop (k+1))
def read(l:Bs):Nat ⊕ Ch:=if l.findIdx bI=l.length then .inl 4 else eH l (l.findIdx bI)
theorem Ia(l:Bs)(h:∀j(c:j<l.length),bI l[j]=false):read l=.inl 4:=by have:l.findIdx bI=l.length:=List.findIdx_eq_length.2 (λx b=>by obtain⟨i,a,rfl⟩:=List.getElem_of_mem b;exact h i a);unfold read;rw[ώ this]
theorem Ib(l:Bs)(k:Nat)(c:k<l.length)(h:∀j(a:j<l.length),j<k->bI l[j]=false)(b:bI l[k]=true):read l=eH l k:=by
 have:l.findIdx bI=k:=by rw[List.findIdx_eq c];exact⟨b,λj a=>h j V a⟩
 unfold read;rw[this,ύ V]
end Thk
namespace Thk
open Go.Proofs.Tryz
theorem oO(c:UInt8):∀(l a:Bs),((aJ c a l).map List.length).sum+(aJ c a l).length=a.length+l.length+1:=by
 intro l;induction l with
 | nil=>intro a;simp[aJ]
 | cons x r ih =>
  intro a;unfold aJ;split
  .have:=ih [];simp at this⊢;omega
  .have:=ih (a++[x]);simp at this⊢;omega
theorem RI(l:List Nat)(b:Nat)(h:∀x∈l,x<=b):l.sum<=b*l.length:=by
 induction l with
 | nil=>simp
 | cons a r ih =>have d:=h a Ω;have e:=ih (λx c=>h x (by simp[c]));simp only[List.sum_cons,δ,Nat.mul_succ];omega
theorem KD(l:Bs)(h:path l=true):l.length<=17:=by
 unfold path iD at h;simp only[γ,decide_eq_true_eq]at h;have f:=h.1.1;have a:∀x∈(split 47 l).map List.length,x<=5:=by intro x d;obtain⟨y,e,rfl⟩:=ι.1 d;have:=List.all_eq_true.1 h.1.2 y e;unfold seg at this;simp at this;omega
 have c:=RI _ 5 a;have b:=oO 47 l [];rw[List.length_map]at c;unfold split at *;simp at b;omega
theorem xB(neg:Bool)(l:Bs)(n:Int)(h:dh neg l=some n):l.length<=10/\n<=1000000000/\-1000000000<=n:=by
 unfold dh at h;by_cases a:fQ neg l
 .rw[ώ a]at h;cases h
 .rw[ύ a]at h;unfold fQ at a;simp only[Bool.or_eq_true,not_or,decide_eq_true_eq]at a;by_cases b:(l.all aX&&decide (bT l<=1000000000))=true
  .rw[ώ b]at h;simp only[γ,decide_eq_true_eq]at b;cases h
   refine⟨V, ?_, ?_⟩<;>(cases neg<;>simp<;>omega)
  .rw[ύ b]at h;cases h
theorem RJ(l:Bs)(n:Int)(h:num l=some n):l.length<=11/\n<=1000000000/\-1000000000<=n:=by
 unfold num at h;by_cases a:l.head? = some 45
 .rw[ώ a]at h;have:=xB _ _ _ h;simp at this;omega
 .rw[ύ a]at h;have:=xB _ _ _ h;omega
theorem read_ok(l:Bs)(c:Ch)(h:read l=.inr c):c.path.length<=17/\c.val.length<=11/\c.n<=1000000000/\-1000000000<=c.n/\path c.path=true:=by
 unfold read at h;by_cases f:l.findIdx bI=l.length
 .rw[ώ f]at h;cases h
 .rw[ύ f]at h;unfold eH at h;by_cases d:path (l.take (l.findIdx bI))=false
  .rw[ώ d]at h;cases h
  .rw[ύ d]at h;have b:path (l.take (l.findIdx bI))=true:=by simpa using d
   by_cases g:fits (kindOf (l.take (l.findIdx bI))) (l.getD (l.findIdx bI) 0)=false
   .rw[ώ g]at h;cases h
   .rw[ύ g]at h;have e:=KD _ b;generalize l.take (l.findIdx bI)=p at *;generalize l.drop (l.findIdx bI+1)=v at *;generalize l.getD (l.findIdx bI) 0=a at *;unfold operand at h;split at h
    .split at h
     .rename_i hv;cases h
      unfold val at hv;simp at hv;exact⟨e,Θ,Ω,Ω,b⟩
     .cases h
    .split at h
     .split at h
      .rename_i n hn;cases h
       have:=RJ _ _ hn;exact⟨e,Θ,Θ,Θ,b⟩
      .cases h
     .split at h
      .rename_i hv;cases h
       exact⟨e,by simp[hv],Ω,Ω,b⟩
      .cases h
theorem read_err(l:Bs)(m:Nat)(h:read l=.inl m):0<m/\m<=6:=by
 unfold read eH operand at h
 repeat' split at h
 all_goals first|(cases h;omega)|(cases h;done)
end Thk
section
open Go.Proofs.Tryz Go.RowKit
variable{cs:Array Value}{neg:Bool}{b k:Nat}{t:TypeId}{w w':World}
theorem wrap_in(n:Int)(a:-9223372036854775808<=n)(b:n<=9223372036854775807):IntKind.i64.wrap n=n:=by unfold IntKind.wrap;simp[IntKind.bits,IntKind.signed];omega
def ah(w:World)(b:Nat)(cs:Array Value)(t:TypeId):Prop:=w.heap[b]?=some (.cells cs t (0,0))
theorem ah.cell(h:ah w b cs t)(j:Nat):w.cell? (O b j)=cs[j]?:=by simp[World.cell?,show w.heap[b]?=_ from h]
theorem ah.frozen(h:ah w b cs t)(j:Nat):w.frozen? (O b j)=false:=by simp[World.frozen?,show w.heap[b]?=_ from h]
theorem ah.lt(h:ah w b cs t):b<w.heap.size:=(Array.getElem?_eq_some_iff.1 h).1
theorem ah.chg{M:Nat->Prop}(h:ah w b cs t)(a:Chg M w w')(c:¬M b):ah w' b cs t:=(a.block b h.lt c).trans h
theorem ah.below(h:ah w b cs t)(a:ϑ w w'):ah w' b cs t:=(a.block b h.lt).trans h
theorem ah.alloc(h:ah w b cs t)(o:Obj):ah (w.alloc o) b cs t:=h.below ((φ _ w).alloc (χ _) o)
theorem ah.grown(h:ah w b cs t)(a:w.grownBy w' (some k))(c:b≠k):ah w' b cs t:=(a.block b h.lt (λe=>c (by cases e;rfl))).trans h
theorem ah.new(w:World)(cs:Array Value)(t:TypeId):ah (w.alloc (.cells cs t)) w.heap.size cs t:=heap_alloc_new w _
structure Glob(w:World):Prop where
 len:∃m,w.cell? (z 0)=some (.int .i64 m)
 syn:∃ev,w.cell? (z 1)=some ev/\(ev=.nilIface\/∃te pe,ev=.iface te pe)
 rng:∃ev,w.cell? (z 2)=some ev/\(ev=.nilIface\/∃te pe,ev=.iface te pe)
 tab:Lib.TabIs prog w "internal/strconv.uint64pow10" .u64 Lib.pow10Tab
 size:3<w.heap.size
theorem Glob.mono(i:Glob w)(a:ϑ w w'):Glob w':=by obtain⟨⟨m,b⟩,⟨f,c,j⟩,⟨h,d,k⟩,l,e⟩:=i;refine⟨⟨m,(a.cell (p:=(z 0)) (block_lt_of_cell b)).trans b⟩,⟨f,(a.cell (p:=(z 1)) (block_lt_of_cell c)).trans c,j⟩,⟨h,(a.cell (p:=(z 2)) (block_lt_of_cell d)).trans d,k⟩, ?_,ο e a.size⟩;exact var?_below (g:=3) a (by kernel_rfl) e l
def askR(es:List Ev)(knowns:List (List Bool))(i:Int)(path:Thk.Bs):Thk.Bs×Int :=
 if 0<=i/\i<knowns.length then(if Thk.path path then(tellR es (aliveTo es (knowns.getD i.toNat []) es.length) path,0) else([],4)) else([],2)
def moreOf(known:List Bool)(n:Nat):List Bool:=known++List.replicate (n-known.length) false++[true]
theorem fF(known:List Bool)(n:Nat)(h:known.length<=n):(moreOf known n).length=n+1:=by unfold moreOf;simp;omega
def DoOut(es:List Ev)(knowns:List (List Bool))(i:Int)(s:Thk.Bs)(r:Int)(es':List Ev)(kn':List (List Bool)):Prop :=
 (¬(0<=i/\i<knowns.length)/\r=2/\es'=es/\kn'=knowns) \/
 (∃k:Nat,(0<=i/\i<knowns.length)/\Thk.read s=.inl k/\r=(k:Int)/\es'=es/\kn'=knowns) \/
 (∃c:Thk.Ch,(0<=i/\i<knowns.length)/\Thk.read s=.inr c/\500<=es.length/\r=7/\es'=es/\kn'=knowns) \/
 ∃(c:Thk.Ch)(e:Ev),(0<=i/\i<knowns.length)/\Thk.read s=.inr c/\es.length<500/\toL e.p=c.path/\e.a=c.act/\toL e.v=c.val/\e.n=c.n/\e.saw=knowns.getD i.toNat [] /\
  r=0/\es'=es++[e]/\kn'=knowns.set i.toNat (moreOf (knowns.getD i.toNat []) es.length)
section
variable{es:List Ev}{knowns:List (List Bool)}{i:Int}{s:Thk.Bs}
theorem DoOut.rep(h:¬(0<=i/\i<knowns.length)):DoOut es knowns i s 2 es knowns:=τ ⟨h,rfl,rfl,rfl⟩
theorem DoOut.bad(k:Nat)(h:0<=i/\i<knowns.length)(a:Thk.read s=.inl k):DoOut es knowns i s k es knowns:=υ (τ ⟨k,h,a,rfl,rfl,rfl⟩)
theorem DoOut.full(c:Thk.Ch)(h:0<=i/\i<knowns.length)(b:Thk.read s=.inr c)(a:500<=es.length):DoOut es knowns i s 7 es knowns:=υ (υ (τ ⟨c,h,b,a,rfl,rfl,rfl⟩))
theorem DoOut.done(c:Thk.Ch)(e:Ev)(h:0<=i/\i<knowns.length)(k:Thk.read s=.inr c)(j:es.length<500)(a:toL e.p=c.path)(b:e.a=c.act)(d:toL e.v=c.val)(f:e.n=c.n)(g:e.saw=knowns.getD i.toNat []):DoOut es knowns i s 0 (es++[e]) (knowns.set i.toNat (moreOf (knowns.getD i.toNat []) es.length)):=υ (υ (υ ⟨c,e,h,k,j,a,b,d,f,g,rfl,rfl,rfl⟩))
end
theorem Az{l:List Bool}{r:List Bool}(i:Nat)(h:i<l.length):(l++r).getD i false=l.getD i false:=by rw[ξ,ξ,ε h]
theorem qV(known:List Bool)(n:Nat)(h:known.length<=n)(i:Nat):(moreOf known n).getD i false=(known.getD i false||decide (i=n)):=by
 unfold moreOf;have d:∀j,known.length<=j->known.getD j false=false:=λj c=>by rw[ξ,List.getElem?_eq_none c];(first|done|rfl)
 by_cases b:i<known.length
 .rw[List.append_assoc,Az i b];have:¬i=n:=V
  simp[this]
 .rw[d i V];by_cases e:i<n
  .rw[Az i Θ,ξ,ϋ V,List.getElem?_replicate,ώ V];have:¬i=n:=V
   simp[this]
  .by_cases a:i=n
   .subst a;rw[ξ,ϋ Θ];have:i-(known++List.replicate (i-known.length) false).length=0:=Θ
    rw[this];simp
   .rw[ξ,List.getElem?_eq_none Θ];simp[a]
theorem cnt_more(known:List Bool)(n:Nat):cnt (moreOf known n)=cnt known+1:=by
 unfold cnt moreOf;rw[List.filter_append,List.filter_append,ρ,ρ];have:(List.replicate (n-known.length) false).filter id=[]:=by rw[List.filter_eq_nil_iff];intro a b;simp[List.eq_of_mem_replicate b]
 rw[this];(first|done|rfl)
theorem cnt_range:∀(l:List Bool)(N:Nat),l.length<=N->((List.range N).filter (λk=>l.getD k false)).length=cnt l
 | [],N,_=>by simp[cnt]
 | b::l,0,h=>by simp at h
 | b::l,N+1,h=>by
  have a:=cnt_range l N (by simpa using h);rw[List.range_succ_eq_map,List.filter_cons,List.filter_map];have e:((λk=>(b::l).getD k false) ∘ Nat.succ)=λk=>l.getD k false:=by funext k;simp
  rw[e];unfold cnt at a⊢;cases b<;>simpa using a
def knowsR(kn:List (List Bool))(i:Int):Int×Int:=if 0<=i/\i<kn.length then((cnt (kn.getD i.toNat []):Int),0) else(0,2)
structure St where
 es:List Ev
 kn:List (List Bool)
 fs:List FrD
def sendR(s:St)(i j:Int):Int×Int :=
 if(0<=i/\i<s.kn.length)/\(0<=j/\j<s.kn.length) then(if i=j then(0,1)else if 500<=s.fs.length then(0,7) else((s.fs.length:Int)+1,0)) else(0,2)
def SendTo(s:St)(i j:Int)(s':St):Prop:=s'.es=s.es/\s'.kn=s.kn/\(if(sendR s i j).2=0 then ∃b,s'.fs=s.fs++[⟨i.toNat,j.toNat,0,s.kn.getD i.toNat [],b⟩]else s'.fs=s.fs)
def frNo(s:St)(f:Int):Option FrD:=if 1<=f/\f<=s.fs.length then s.fs[f.toNat-1]? else none
def delR(s:St)(f:Int):Int×Int :=
 match frNo s f with
 | none=>(0,9)
 | some g=>if 0<g.ack then(0,0)else if 500<=s.fs.length then(0,7) else((s.fs.length:Int)+1,0)
def delK(a b:List Bool):List Bool:=if cnt a<cnt (bothL a b)then bothL a b else a
def DelTo(s:St)(f:Int)(s':St):Prop :=
 s'.es=s.es /\
 match frNo s f with
 | none=>s'.kn=s.kn/\s'.fs=s.fs
 | some g=>if 0<g.ack\/500<=s.fs.length then s'.kn=s.kn/\s'.fs=s.fs else s'.kn=s.kn.set g.dst (delK (s.kn.getD g.dst []) g.known)/\∃b,s'.fs=s.fs++[⟨g.dst,g.src,f.toNat,[],b⟩]
def frameR(s:St)(f:Int):ByteArray×Int :=
 match frNo s f with
 | none=>(⟨#[]⟩,9)
 | some g=>(g.bytes,0)
theorem oq{B:Nat}{S:Nat->Prop}{a c:World}(h:Chg S a c)(b:∀k,S k->B<=k)(f:B<=a.heap.size):Below B a c :=
 ⟨h.os,h.tape,h.output,h.size,λk e=>h.block k V (λd=>by have:=b k d;omega)⟩
theorem mX:∀(a b:List Bool)(N:Nat),(∀i,a.getD i false=true->b.getD i false=true)->a.length<=N->b.length<=N->cnt a<=cnt b/\(¬cnt a<cnt b->∀i,b.getD i false=a.getD i false):=by
 intro a b N h g j;rw[<- cnt_range a N g,<- cnt_range b N j];have m:∀(l:List Nat),(l.filter λk=>a.getD k false).length<=(l.filter λk=>b.getD k false).length/\(¬(l.filter λk=>a.getD k false).length<(l.filter λk=>b.getD k false).length->∀i∈l,b.getD i false=a.getD i false):=by
  intro l;induction l with
  | nil=>simp
  | cons x r ih =>
   obtain⟨n,f⟩:=ih;cases hax:a.getD x false with
   | true =>
    have d:=h x hax;rw[List.filter_cons_of_pos (by simpa using hax),List.filter_cons_of_pos (by simpa using d),δ,δ];refine⟨V,λe i c=>?_⟩;rcases List.mem_cons.1 c with rfl|c
    .rw[hax,d]
    .exact f V i c
   | false =>
    rw[List.filter_cons_of_neg (by rw[hax];simp)];cases d:b.getD x false with
    | true =>rw[List.filter_cons_of_pos (by simpa using d),δ];exact⟨V,λe=>V⟩
    | false =>
     rw[List.filter_cons_of_neg (by rw[d];simp)];refine⟨n,λe i c=>?_⟩;rcases List.mem_cons.1 c with rfl|c
     .rw[hax,d]
     .exact f e i c
 obtain⟨o,p⟩:=m (List.range N);refine⟨o,λe i=>?_⟩;by_cases c:i<N
 .exact p e i (List.mem_range.2 c)
 .rw[getD_len V,getD_len (known:=a) V]
def isRef(t:TypeId):Prop:=t=170\/t=165\/t=239\/t=233\/t=3
theorem KE:∀n,Thk.oh n=Lib.decDigits n:=by
 intro n;induction n using Nat.strongRecOn with
 | _ n ih =>
  rw[Thk.oh,Lib.decDigits];split
  .rfl
  .rw[ih (n / 10) V]
theorem AB(n:Int):Thk.digits n=Lib.itoa n:=by
 unfold Thk.digits Lib.itoa;rw[KE];split
 .rfl
 .rw[(V:n.natAbs=n.toNat)]
theorem kW{t':TypeId}(h:Tagged w k t)(a:Tagged w k t'):t=t':=Classical.byContradiction λe=>h.ne a e rfl
theorem fV(t:ByteArray)(k:Nat)(h:k<t.size):(toL t)[k]'(by rw[toL_length];exact h)=t[k]:=byte_at t k h
def NumEnd(neg:Bool)(t:ByteArray)(e:Ending):Prop:=∃m:Int,e=.returned (.tuple #[.int .i64 m,.bool (Thk.dh neg (toL t)).isSome])/\∀x,Thk.dh neg (toL t)=some x->m=x
theorem jR(neg:Bool)(t:ByteArray):Thk.fQ neg (toL t)=true↔(t.size<1\/10<t.size\/(∃h:0<t.size,(t[0].toNat:Int)=48/\(1<t.size\/neg=true))):=by
 unfold Thk.fQ;by_cases h:0<t.size
 .rw[jG t h,toL_length];simp only[Bool.or_eq_true,γ,decide_eq_true_eq,beq_iff_eq,Option.some.injEq];have e:t[0]=48↔(t[0].toNat:Int)=48:=by
   constructor
   .intro h;rw[h];(first|done|rfl)
   .intro h;apply UInt8.toNat_inj.1;have:(48:UInt8).toNat=48:=rfl;omega
  rw[e];constructor
  .rintro((a|b)|c)
   .exact τ a
   .exact υ (τ b)
   .exact υ (υ ⟨h,c⟩)
  .rintro(a|b|⟨_,c⟩)
   .exact τ (τ a)
   .exact τ (υ b)
   .exact υ c
 .rw[toL_length];constructor
  .intro _;left;omega
  .intro _;have:decide (t.size<1)=true:=by rw[decide_eq_true_iff];omega
   rw[this];(first|done|rfl)
theorem Gm{t:ByteArray}(h:Thk.fQ neg (toL t)=true):Thk.dh neg (toL t)=none:=by unfold Thk.dh;rw[h];(first|done|rfl)
theorem kX{t:ByteArray}(a:k<t.size)(h:¬(48<=(t[k].toNat:Int)/\(t[k].toNat:Int)<=57)):Thk.dh neg (toL t)=none:=by
 have:(toL t).all Thk.aX=false:=by rw[List.all_eq_false];refine⟨(toL t)[k]'(by rw[toL_length];exact a),κ _, ?_⟩;rw[fV t k a];unfold Thk.aX;simp;omega
 unfold Thk.dh;rw[this];simp
theorem yO{t:ByteArray}(b:Thk.fQ neg (toL t)=false)(a:((toL t).take t.size).all Thk.aX=true):Thk.dh neg (toL t)=if Thk.bT ((toL t).take t.size)<=1000000000 then some (if neg then -(Thk.bT ((toL t).take t.size):Int) else(Thk.bT ((toL t).take t.size):Int))else none:=by
 have e:(toL t).take t.size=toL t:=by rw[<- toL_length t,List.take_length]
 rw[e]at a⊢;unfold Thk.dh;rw[b,a];simp
theorem En(s:ByteArray)(w:World)(K:s.size<=1048576)(H:J ((toL s).head?≠some 45)):Calls prog 241 #[.string s] w λB w'=>NumEnd false s B/\w'=w:=by
 have e:∀h:0<s.size,((s[0].toNat:Int)==45)=false:=by intro h;rw[ό];intro C;apply H.o;rw[jG s h];congr 1;apply UInt8.toNat_inj.1;have:(45:UInt8).toNat=45:=rfl;omega
 cases hbad:Thk.fQ false (toL s)
 .have n:=(not_congr (jR false s)).1 (by rw[hbad];simp);have t:J<|Thk.fQ false (toL s)=false:=hbad;clear hbad;have u:0<s.size:=V
  have C:s.size<=10:=V
  have v:((s[0].toNat:Int)==45)=false:=e u;have l:¬((s[0].toNat:Int)=48/\1<s.size):=λh=>n (υ (υ ⟨u,h.1,τ h.2⟩));clear e n;by_cases d:(s[0].toNat:Int)=48
  .have D:¬1<s.size:=λh=>l ⟨d,h⟩;have y:((s[0].toNat:Int)==48)=true:=by rw[d];(first|done|rfl)
   clear l d;go_enter func241,ntmps241;go_wp2
   go_loop [5,6] (λr j=>∃k:Nat,k<=s.size/\j=.int .i64 k/\r=.int .i64 (Thk.bT ((toL s).take k))/\J (((toL s).take k).all Thk.aX=true)) (λ_ j=>s.size-(intOf j).toNat)
   case atStart=>exact⟨0,V,rfl,by simp[Thk.bT],by simp[J]⟩
   case round =>
    obtain⟨k,G,rfl,rfl,b⟩:=hrel;have A:Thk.bT ((toL s).take k)<10000000000:=by
     have h:=Thk.yM _ b.o;have:((toL s).take k).length<=10:=by simp[toL_length];omega
     exact ο h (ς (Nat.pow_le_pow_right V this) Ψ)
    by_cases g:k<s.size
    .by_cases f:48<=(s[k].toNat:Int)/\(s[k].toNat:Int)<=57
     .obtain⟨E,F⟩:=f;have i:(toL s).take (k+1)=(toL s).take k++[s[k]]:=by rw[ν (by rw[toL_length];exact g),fV s k g]
      have p:J<|(Thk.bT ((toL s).take (k+1)):Int)=10*(Thk.bT ((toL s).take k):Int)+((s[k].toNat:Int)-48):=ω<|by rw[i,Thk.jF];unfold Thk.oL;omega
      have o:J<|((toL s).take (k+1)).all Thk.aX=true:=ω<|by rw[i,List.all_append,b.o];unfold Thk.aX;simp;omega
      clear i b;generalize Thk.bT ((toL s).take k)=m at *;go_wp2;all_goals
       go_round
       case rel=>exact⟨k+1,V,Λ,by rw[p.o],o⟩
       case measure=>simp[intOf];omega
     .have a:J<|Thk.dh false (toL s)=none:=kX g f;rcases(show(s[k].toNat:Int)<48\/57<(s[k].toNat:Int)from by omega)with h|h
      all_goals clear f b
      all_goals
       go_wp2;all_goals
        go_ret2;exact⟨⟨0,by rw[a.o];rfl,by rw[a.o];intro x h;cases h⟩,rfl⟩
    .have q:k=s.size:=V
     subst q;have a:J<|_:=yO (neg:=false) t.o b.o;clear b;generalize Thk.bT ((toL s).take s.size)=m at *;go_wp2;all_goals
      go_ret2;refine⟨⟨(m:Int), ?_, ?_⟩,rfl⟩
      .rw[a.o];by_cases c:m<=1000000000
       .simp[c]<;>omega
       .simp[c]<;>omega
      .rw[a.o];intro x h;by_cases c:m<=1000000000
       .simp[c]at h;omega
       .simp[c]at h
  .have y:((s[0].toNat:Int)==48)=false:=by simpa using d
   clear l d;go_enter func241,ntmps241;go_wp2
   go_loop [5,6] (λr j=>∃k:Nat,k<=s.size/\j=.int .i64 k/\r=.int .i64 (Thk.bT ((toL s).take k))/\J (((toL s).take k).all Thk.aX=true)) (λ_ j=>s.size-(intOf j).toNat)
   case atStart=>exact⟨0,V,rfl,by simp[Thk.bT],by simp[J]⟩
   case round =>
    obtain⟨k,G,rfl,rfl,b⟩:=hrel;have A:Thk.bT ((toL s).take k)<10000000000:=by
     have h:=Thk.yM _ b.o;have:((toL s).take k).length<=10:=by simp[toL_length];omega
     exact ο h (ς (Nat.pow_le_pow_right V this) Ψ)
    by_cases g:k<s.size
    .by_cases f:48<=(s[k].toNat:Int)/\(s[k].toNat:Int)<=57
     .obtain⟨E,F⟩:=f;have i:(toL s).take (k+1)=(toL s).take k++[s[k]]:=by rw[ν (by rw[toL_length];exact g),fV s k g]
      have p:J<|(Thk.bT ((toL s).take (k+1)):Int)=10*(Thk.bT ((toL s).take k):Int)+((s[k].toNat:Int)-48):=ω<|by rw[i,Thk.jF];unfold Thk.oL;omega
      have o:J<|((toL s).take (k+1)).all Thk.aX=true:=ω<|by rw[i,List.all_append,b.o];unfold Thk.aX;simp;omega
      clear i b;generalize Thk.bT ((toL s).take k)=m at *;go_wp2;all_goals
       go_round
       case rel=>exact⟨k+1,V,Λ,by rw[p.o],o⟩
       case measure=>simp[intOf];omega
     .have a:J<|Thk.dh false (toL s)=none:=kX g f;rcases(show(s[k].toNat:Int)<48\/57<(s[k].toNat:Int)from by omega)with h|h
      all_goals clear f b
      all_goals
       go_wp2;all_goals
        go_ret2;exact⟨⟨0,by rw[a.o];rfl,by rw[a.o];intro x h;cases h⟩,rfl⟩
    .have q:k=s.size:=V
     subst q;have a:J<|_:=yO (neg:=false) t.o b.o;clear b;generalize Thk.bT ((toL s).take s.size)=m at *;go_wp2;all_goals
      go_ret2;refine⟨⟨(m:Int), ?_, ?_⟩,rfl⟩
      .rw[a.o];by_cases c:m<=1000000000
       .simp[c]<;>omega
       .simp[c]<;>omega
      .rw[a.o];intro x h;by_cases c:m<=1000000000
       .simp[c]at h;omega
       .simp[c]at h
 .have n:=(jR false s).1 hbad;have a:J<|Thk.dh false (toL s)=none:=Gm hbad;clear hbad;rcases n with h|h|⟨h,l,d⟩
  .clear e;go_enter func241,ntmps241;go_wp2;all_goals
    go_ret2;exact⟨⟨0,by rw[a.o];rfl,by rw[a.o];intro x h;cases h⟩,rfl⟩
  .have v:=e V;clear e;go_enter func241,ntmps241;go_wp2;all_goals
    go_ret2;exact⟨⟨0,by rw[a.o];rfl,by rw[a.o];intro x h;cases h⟩,rfl⟩
  .have v:=e h;have y:((s[0].toNat:Int)==48)=true:=by rw[l];(first|done|rfl)
   have D:1<s.size:=by simpa using d
   clear e l d;go_enter func241,ntmps241;go_wp2;all_goals
    go_ret2;exact⟨⟨0,by rw[a.o];rfl,by rw[a.o];intro x h;cases h⟩,rfl⟩
theorem Eo(s:ByteArray)(w:World)(R:s.size<=1048576)(K:0<s.size)(v:(s[0].toNat:Int)=45):Calls prog 241 #[.string s] w λC w'=>NumEnd true (s.extract 1 s.size) C/\w'=w:=by
 have M:((s[0].toNat:Int)==45)=true:=by rw[v];(first|done|rfl)
 have d:(s.extract 1 s.size).size=s.size-1:=by simp[ByteArray.size_extract]
 clear v;cases hbad:Thk.fQ true (toL (s.extract 1 s.size))
 .have e:=(not_congr (jR true (s.extract 1 s.size))).1 (by rw[hbad];simp);have B:J<|Thk.fQ true (toL (s.extract 1 s.size))=false:=hbad;clear hbad;have q:0<(s.extract 1 s.size).size:=V
  have L:(s.extract 1 s.size).size<=10:=V
  have g:(((s.extract 1 s.size)[0].toNat:Int)==48)=false:=by rw[ό];exact λh=>e (υ (υ ⟨q,h,υ rfl⟩))
  have o:1<=s.size-1:=V
  have E:s.size-1<=10:=V
  clear e d;go_enter func241,ntmps241;go_wp2;clear g;generalize ((s.extract 1 s.size)[0]'q).toNat=H at *;generalize u:s.extract 1 s.size=t at *;have p:J<|s.extract 1 s.size=t:=u;clear u
  go_loop [5,6] (λF n=>∃k:Nat,k<=t.size/\n=.int .i64 k/\F=.int .i64 (Thk.bT ((toL t).take k))/\J (((toL t).take k).all Thk.aX=true)) (λ_ n=>t.size-(intOf n).toNat)
  case atStart=>exact⟨0,V,rfl,by simp[Thk.bT],by simp[J]⟩
  case round =>
   obtain⟨k,Q,rfl,rfl,b⟩:=hrel;have G:Thk.bT ((toL t).take k)<10000000000:=by
    have h:=Thk.yM _ b.o;have:((toL t).take k).length<=10:=by simp[toL_length];omega
    exact ο h (ς (Nat.pow_le_pow_right V this) Ψ)
   by_cases j:k<t.size
   .by_cases i:48<=(t[k].toNat:Int)/\(t[k].toNat:Int)<=57
    .obtain⟨N,P⟩:=i;have l:(toL t).take (k+1)=(toL t).take k++[t[k]]:=by rw[ν (by rw[toL_length];exact j),fV t k j]
     have A:J<|(Thk.bT ((toL t).take (k+1)):Int)=10*(Thk.bT ((toL t).take k):Int)+((t[k].toNat:Int)-48):=ω<|by rw[l,Thk.jF];unfold Thk.oL;omega
     have y:J<|((toL t).take (k+1)).all Thk.aX=true:=ω<|by rw[l,List.all_append,b.o];unfold Thk.aX;simp;omega
     clear l b;generalize Thk.bT ((toL t).take k)=m at *;go_wp2;all_goals
      go_round
      case rel=>exact⟨k+1,V,Λ,by rw[A.o],y⟩
      case measure=>simp[intOf];omega
    .have a:J<|Thk.dh true (toL t)=none:=kX j i;rcases(show(t[k].toNat:Int)<48\/57<(t[k].toNat:Int)from by omega)with h|h
     all_goals clear i b
     all_goals
      go_wp2;all_goals
       go_ret2;rw[p.o];exact⟨⟨0,by rw[a.o];rfl,by rw[a.o];intro x h;cases h⟩,rfl⟩
   .have D:k=t.size:=V
    subst D;have a:J<|_:=yO (neg:=true) B.o b.o;clear b;generalize Thk.bT ((toL t).take t.size)=m at *;go_wp2;all_goals
     go_ret2;rw[p.o];refine⟨⟨-(m:Int), ?_, ?_⟩,rfl⟩
     .rw[a.o];by_cases c:m<=1000000000
      .simp[c]<;>omega
      .simp[c]<;>omega
     .rw[a.o];intro x h;by_cases c:m<=1000000000
      .simp[c]at h;omega
      .simp[c]at h
 .have e:=(jR true (s.extract 1 s.size)).1 hbad;have a:J<|Thk.dh true (toL (s.extract 1 s.size))=none:=Gm hbad;clear hbad;rcases e with h|h|⟨h,f,r⟩
  .have o:s.size-1<1:=V
   clear d h;go_enter func241,ntmps241;go_wp2;all_goals
    go_ret2;exact⟨⟨0,by rw[a.o];rfl,by rw[a.o];intro x h;cases h⟩,rfl⟩
  .have o:10<s.size-1:=V
   clear d h;go_enter func241,ntmps241;go_wp2;all_goals
    go_ret2;exact⟨⟨0,by rw[a.o];rfl,by rw[a.o];intro x h;cases h⟩,rfl⟩
  .have g:(((s.extract 1 s.size)[0].toNat:Int)==48)=true:=by rw[f];(first|done|rfl)
   by_cases E:10<s.size-1
   .clear f r d g;go_enter func241,ntmps241;go_wp2;all_goals
     go_ret2;exact⟨⟨0,by rw[a.o];rfl,by rw[a.o];intro x h;cases h⟩,rfl⟩
   .have o:1<=s.size-1:=V
    clear f r d;go_enter func241,ntmps241;go_wp2;all_goals
     go_ret2;exact⟨⟨0,by rw[a.o];rfl,by rw[a.o];intro x h;cases h⟩,rfl⟩
theorem Ic(s:ByteArray):((toL s).head?≠some 45/\Thk.num (toL s)=Thk.dh false (toL s))\/(∃h:0<s.size,(s[0].toNat:Int)=45/\Thk.num (toL s)=Thk.dh true (toL (s.extract 1 s.size))):=by
 by_cases h:(toL s).head? = some 45
 .right;have a:0<s.size:=by
   rcases Nat.eq_zero_or_pos s.size with e|e
   .have:toL s=[]:=List.eq_nil_of_length_eq_zero (by rw[toL_length,e]);rw[this]at h;cases h
   .exact e
  refine⟨a, ?_, ?_⟩
  .rw[jG s a]at h;simp only[Option.some.injEq]at h;rw[h];(first|done|rfl)
  .unfold Thk.num;rw[ώ h,cu];congr 1;rw[<- toL_length s,List.take_length,List.drop_one]
 .left;exact⟨h,by unfold Thk.num;rw[ύ h]⟩
theorem Ep(s:ByteArray)(w:World)(a:s.size<=1048576):Calls prog 241 #[.string s] w λe w'=>(∃m:Int,e=.returned (.tuple #[.int .i64 m,.bool (Thk.num (toL s)).isSome])/\∀x,Thk.num (toL s)=some x->m=x)/\w'=w:=by
 rcases Ic s with⟨h,e⟩|⟨b,h,e⟩
 .rw[e];exact En s w a h
 .rw[e];exact Eo s w a b h
theorem iO(s:ByteArray)(w:World)(q:s.size<=1048576):Calls prog 240 #[.string s] w λe w'=>e=.returned (.bool (Thk.val s.data.toList))/\w'=w:=by
 go_enter func240,ntmps240;go_wp2
 go_loop [3] (λi=>∃k:Nat,k<=s.size/\i=.int .i64 k/\∀j(h:j<s.data.toList.length),j<k->(Thk.isLow s.data.toList[j]||Thk.aX s.data.toList[j])=true) (λi=>s.size-(intOf i).toNat)
 case atStart=>exact⟨0,V,rfl,λj _ b=>V⟩
 case round =>
  obtain⟨k,p,rfl,f⟩:=hrel;have a:J<|∀j(h:j<s.data.toList.length),j<k->(Thk.isLow s.data.toList[j]||Thk.aX s.data.toList[j])=true:=f;clear f;by_cases d:k<s.size
  .by_cases g:(97<=(s[k].toNat:Int)/\(s[k].toNat:Int)<=122)\/(48<=(s[k].toNat:Int)/\(s[k].toNat:Int)<=57)
   .have n:J<|∀j(h:j<s.data.toList.length),j<k+1->(Thk.isLow s.data.toList[j]||Thk.aX s.data.toList[j])=true:=by
     intro j h b;by_cases e:j=k
     .subst e;rw[byte_at s j d];unfold Thk.isLow Thk.aX;simp;omega
     .exact a.o j h V
    clear a;rcases g with⟨l,m⟩|⟨l,m⟩
    all_goals
     go_wp2;all_goals
      go_round
      case rel=>exact⟨k+1,V,Λ,n.o⟩
      case measure=>simp[intOf];omega
   .have c:J<|Thk.val s.data.toList=false:=Thk.yK _ k (by simpa using d) (by rw[byte_at s k d,Bool.eq_false_iff];unfold Thk.isLow Thk.aX;simp;omega);rcases(show(s[k].toNat:Int)<48\/(57<(s[k].toNat:Int)/\(s[k].toNat:Int)<97)\/122<(s[k].toNat:Int)from by omega)with h|⟨h,o⟩|h
    all_goals clear g
    all_goals
     go_wp2;all_goals
      go_ret;exact⟨aG c.o.symm,rfl⟩
  .have c:J<|Thk.val s.data.toList=(decide (1<=s.size)&&decide (s.size<=8)):=by have h:=Thk.RF s.data.toList (λi h=>a.o i h (by simp at h;omega));exact h.trans Ω
   go_wp2;all_goals
    go_ret;refine⟨aG ?_,rfl⟩;rw[c.o,Bool.eq_iff_iff];simp;try omega
def AP(k a:UInt8):Bool :=
 if k.toNat=115 then a.toNat==43||a.toNat==45||a.toNat==33
 else if k.toNat=102 then a.toNat==94||a.toNat==95||a.toNat==33
 else if k.toNat=114 then a.toNat==61||a.toNat==33
 else if k.toNat=99 then a.toNat==62||a.toNat==33
 else a.toNat==33
theorem fits_any(k a:UInt8)(w:World):Calls prog 239 #[.int .u8 (k.toNat:Int),.int .u8 (a.toNat:Int)] w λe w'=>e=.returned (.bool (AP k a))/\w'=w:=by
 go_enter func239,ntmps239;go_wp2;all_goals
  go_ret;refine⟨aG ?_,rfl⟩;unfold AP;rw[Bool.eq_iff_iff]
  repeat' split
  all_goals simp only[Bool.or_eq_true,beq_iff_eq,ό,Bool.true_eq_false,Bool.false_eq_true,true_iff,false_iff,iff_true,iff_false,eq_self]at *
  all_goals omega
