import Derived.Lib.ItoaLen
import Derived.Test.YtfmmllpjgkgeaabGreatDoorZ01
set_option linter.all false
set_option maxHeartbeats 0
set_option maxRecDepth 100000
namespace Go.Proofs.YtfmmllpjgkgeaabGreatDoor
section
open Go.Proofs.Tryz Go.RowKit
variable{xs:List Value}{B b:Nat}{M:Nat->Prop}{t:TypeId}{v:Value}{a c w w':World}
def eu.form(h:eu B w v xs):∃d c,v=.slice d xs.length c/\xs.length<=c/\(0<xs.length->∃b a,d=some (O b a)/\b<B/\∀j(h:j<xs.length),w.cell? (O b (a+j))=some xs[j]):=by
 rcases h with⟨rfl,rfl⟩|⟨b,a,c,e,f,g,i⟩
 .exact⟨none,0,rfl,χ _,λh=>by simp at h⟩
 .exact⟨some (O b a),c,e,f,λ_=>⟨b,a,rfl,g,i⟩⟩
structure TSt where
 l:List Thk.Bs
 sum:Int
 some:Bool
def qJ(k:UInt8)(path:Thk.Bs)(st:TSt)(e:Ev):TSt :=
 if((k.toNat:Int)==109)&&Thk.begins (ay e.p) path&&!(ay e.p==path) then⟨lZ st.l ((Thk.split 47 ((ay e.p).drop (path.length+1))).headD []),st.sum,st.some⟩
 else if ay e.p==path then⟨lZ st.l (ay e.v),st.sum+e.n,true⟩else st
def BR(k:UInt8)(st:TSt):Thk.Bs :=
 if(k.toNat:Int)=102 then(if st.some then [49]else [48])else if(k.toNat:Int)=99 then Thk.digits st.sum else Thk.kD st.l st.l.length
def zY(es:List Ev)(al:List Nat)(path:Thk.Bs):Thk.Bs :=
 BR (Thk.kindOf path) (al.foldl (λst j=>match es[j]? with|some e=>qJ (Thk.kindOf path) path st e|none=>st) ⟨[],0,false⟩)
def jA(es:List Ev)(k:UInt8)(path:Thk.Bs)(al:List Nat):TSt:=al.foldl (λst j=>match es[j]? with|some e=>qJ k path st e|none=>st) ⟨[],0,false⟩
def Oa(es:List Ev)(k:UInt8)(path:Thk.Bs)(a:List Nat)(i:Nat)(h:i<a.length)(e:Ev)(b:es[a[i]]?=some e):jA es k path (a.take (i+1))=qJ k path (jA es k path (a.take i)) e:=by unfold jA;rw[FQ _ _ _ i h,b]
structure RV(e:Ev):Prop where
 p:e.p.size<=20
 v:e.v.size<=20
 n1:e.n<=1000000000
 n2:-1000000000<=e.n
 s:e.zW.length<=1048576
structure VD(B:Nat)(w:World)(es:List Ev)(k:UInt8)(path:Thk.Bs)(al:List Nat)(i:Nat)(lv:Value)(sum:Int)(sm:Bool)(wr:World):Prop where
 below:Below B w wr
 own:∃ss:List ByteArray,eu wr.heap.size wr lv (strs ss)/\ss.map ay=(jA es k path (al.take i)).l/\ss.length<=i/\∀s∈ss,s.size<=1000
 hsum:sum=(jA es k path (al.take i)).sum
 b1:sum<=1000000000*i
 b2:-(1000000000*i)<=sum
 hsome:sm=(jA es k path (al.take i)).some
def VD.next{wr:World}{es:List Ev}{k:UInt8}{path:Thk.Bs}{c:List Nat}{i:Nat}{f:Value}{j:Int}{g:Bool}(h:VD w.heap.size w es k path c i f j g wr)(d:jA es k path (c.take (i+1))=jA es k path (c.take i))(o:ϒ w w')(e:ϒ wr w'):VD w.heap.size w es k path c (i+1) f j g w':=by obtain⟨p,l,m,q,n⟩:=h.own;have a:=h.b1;have b:=h.b2;exact⟨o,⟨p,(l.below e).mono e.size,by rw[d];exact m,V,n⟩,by rw[d];exact h.hsum,V,V,by rw[d];exact h.hsome⟩
def VE(B:Nat)(aY:Value)(es:List Ev)(av:Value)(d:List Nat)(path:ByteArray)(w:World)(hB:B<=w.heap.size)(hn:es.length<=1048576)(ag:qZ B w aY es)(ae:eu w.heap.size w av (xI d))(ad:∀j∈d,j<es.length)(ba:d.length<=1048576)(hz:∀bn∈es,RV bn)(aj:path.size<=1048576)(hp:Thk.path (ay path)=true):Calls prog 62 #[aY,av,.string path] w λbn w'=>∃t,bn=.returned (.string t)/\ay t=zY es d (ay path)/\ϒ w w':=by
 have an:J<|0<es.length->∃b h M,aY=.slice (some (O b h)) es.length M/\es.length<=M/\∀wr,ϒ w wr->∀j(bm:j<es.length),∃A Q y,
   wr.cell? (O b (h+j*5))=some (.string es[j].p)/\wr.cell? (O b (h+j*5+1))=some (.int .u8 (es[j].a.toNat:Int))/\wr.cell? (O b (h+j*5+2))=some (.string es[j].v) /\
   wr.cell? (O b (h+j*5+3))=some (I es[j].n)/\wr.cell? (O b (h+j*5+4))=some (.slice A Q y):=by
  intro bo;rcases ag with⟨_,D⟩|⟨b,h,M,h1,D,o,h4⟩
  .rw[D]at bo;simp at bo
  .refine⟨b,h,M,h1,D,λwr E j bm=>?_⟩;obtain⟨sv,c0,c1,c2,c3,c4,c5⟩:=h4 j bm;have N:=E.mono hB;obtain⟨A,y,rfl,_,_⟩:=c5.form;exact⟨A,_,y,(N.cell (p:=(O b _)) o).trans c0,(N.cell (p:=(O b _)) o).trans c1,(N.cell (p:=(O b _)) o).trans c2,(N.cell (p:=(O b _)) o).trans c3,(N.cell (p:=(O b _)) o).trans c4⟩
 have Hz:J<|_:=hz;have Hp:J<|_:=hp;have NJ:J<|_:=ad;obtain⟨ao,ac,rfl,ar,P⟩:=ae.form;have ah:(xI d).length=d.length:=by simp[xI]
 rw[ah]at ar⊢;have Hc:J<|0<d.length->∃b h,ao=some (O b h)/\∀(wr:World),ϒ w wr->∀j(bm:j<d.length),wr.cell? (O b (h+j))=some (I (d[j])):=by intro bo;obtain⟨b,h,h1,D,o⟩:=P V;refine⟨b,h,h1,λwr E j bm=>?_⟩;rw[E.cell (p:=(O b (h+j))) D,o j V];simp[xI]
 clear ag hz hp ad ae P ah;go_enter func62,ntmps62;go_wp2_with fail;refine(JO path _ aj Hp.o).mono ?_;rintro bn w1⟨rfl,aw⟩;have VF:J<|zY es d (ay path)=BR (Thk.kindOf (ay path)) (jA es (Thk.kindOf (ay path)) (ay path) d):=rfl;generalize Thk.kindOf (ay path)=f at *;go_wp2;go_loopw [7,8,9,11] (λl s m i wr=>∃(k:Nat)(n:Int)(C:Bool),k<=d.length/\i=I k/\s=I n/\m=.bool C/\VD w.heap.size w es f (ay path) d k l n C wr) (λ_ _ _ i _=>d.length-(intOf i).toNat);case atStart=>exact⟨0,0,false,V,rfl,rfl,rfl,aw,⟨[],τ ⟨rfl,rfl⟩,rfl,Ω,Ω⟩,rfl,Ω,Ω,rfl⟩
 case round =>
  obtain⟨k,n,C,hk,rfl,rfl,rfl,hI⟩:=hrel;have e:J<|_:=hI;clear hI;by_cases a4:k<d.length
  .obtain⟨ab,b9,rfl,EY⟩:=Hc.o V;have az:=EY _ e.o.below k a4;have hj:=NJ.o _ (κ a4);obtain⟨b,h,M,rfl,bd,a8⟩:=an.o V;obtain⟨A,Q,y,c0,c1,c2,c3,c4⟩:=a8 _ e.o.below d[k] hj;have v:=Hz.o _ (κ hj);have F:J<|_:=Oa es f (ay path) d k a4 _ (σ hj);clear EY a8;generalize d[k]=j at *;generalize es[j]=c at *;go_wp2_with fail;refine(BL _ _ _ (by have:=v.p;omega) aj).mono ?_;rintro bn w2⟨rfl,rfl⟩;have E:=e.o.below.alloc e.o.below.size (.cells #[.string c.p,.int .u8 (c.a.toNat:Int),.string c.v,I c.n,.slice A Q y] 124);have a3:=ω E;clear E c0 c1 c2 c3 c4 az;have b6:=v.p;have b7:=v.v;have bj:=v.n1;have bk:=v.n2;have bb:=e.o.b1;have bc:=e.o.b2;cases q3:(c.p.toList==path.toList)
   .cases q1:((f.toNat:Int)==109)
    .have bl:J<|jA es f (ay path) (d.take (k+1))=jA es f (ay path) (d.take k):=ω<|by rw[F.o];unfold qJ;rw[q1,ύ Ω,ύ (by rw[toList_eq,toList_eq]at q3;rw[show(ay c.p==ay path)=false from q3];simp)]
     generalize Thk.begins c.p.data.toList path.data.toList=bg;go_wp2;go_roundw;case rel=>exact⟨k+1,n,C,V,Λ,rfl,rfl,e.o.next bl.o a3.o (φ _ _ |>.alloc (χ _) _)⟩
     case measure=>simp[intOf];omega
    .cases q2:Thk.begins c.p.data.toList path.data.toList
     .have bl:J<|jA es f (ay path) (d.take (k+1))=jA es f (ay path) (d.take k):=ω<|by rw[F.o];unfold qJ;rw[q1,show Thk.begins (ay c.p) (ay path)=false from q2,ύ Ω,ύ (by rw[toList_eq,toList_eq]at q3;rw[show(ay c.p==ay path)=false from q3];simp)]
      go_wp2;go_roundw;case rel=>exact⟨k+1,n,C,V,Λ,rfl,rfl,e.o.next bl.o a3.o (φ _ _ |>.alloc (χ _) _)⟩
      case measure=>simp[intOf];omega
     .have bi:path.size<c.p.size:=by rw[toList_eq,toList_eq]at q3;unfold Thk.begins at q2;rw[q3]at q2;simp only[Bool.false_or,γ,ϑs]at q2;have:=q2.1.1;simpa using this
      have bl:J<|jA es f (ay path) (d.take (k+1))=⟨lZ (jA es f (ay path) (d.take k)).l ((Thk.split 47 ((ay c.p).drop (path.size+1))).headD []),(jA es f (ay path) (d.take k)).sum,(jA es f (ay path) (d.take k)).some⟩:=ω<|by rw[F.o];unfold qJ;rw[q1,show Thk.begins (ay c.p) (ay path)=true from q2,ώ (by rw[toList_eq,toList_eq]at q3;rw[show(ay c.p==ay path)=false from q3];rfl),aB]
      obtain⟨R,q,bp,ak,u⟩:=e.o.own;have L:=ω q;have S:J<|_:=bp;have G:J<|_:=u;clear q bp u F v;have H:J<|ϒ wr (wr.alloc (.cells #[.string c.p,.int .u8 (c.a.toNat:Int),.string c.v,I c.n,.slice A Q y] 124)):=(φ _ _).alloc (χ _) _;go_wp2_with fail;refine(y9 _ 47 _ (by simp[ϑo];omega)).mono ?_;rintro bn w3⟨v3,x,rfl,ai,X,b8,a9,Z⟩;have U:J<|ϒ wr w3:=H.o.trans (Z.mono Ω);have ap:J<|_:=X;have a5:x≠[]:=by intro bm;rw[bm]at X;exact Thk.kC _ _ X.symm
      have bo:=List.length_pos_iff.2 a5;have b5:J<|∀p∈x,p.size<=1000:=λp hp=>by have:=a9 p hp;simp[ϑo]at this;omega
      rcases uJ ai with⟨rfl,D,o⟩|⟨g,cp,rfl,bf,be,hg,bh,b4,P⟩
      .omega
      .have ax:=P 0 (by simpa[strs]using bo);have af:(strs x)[0]'(by simpa[strs]using bo)=.string (x[0]'bo):=by simp[strs]
       rw[af]at ax;have b2:=b5.o _ (κ bo);have Hh:J<|(Thk.split 47 ((ay c.p).drop (path.size+1))).headD []=ay (x[0]'bo):=by
        have e1:ay (c.p.extract (path.size+1) c.p.size)=(ay c.p).drop (path.size+1):=by rw[fU,<- aB c.p,ϑm]
        unfold J;rw[<- e1,<- ap.o];cases x with
        | nil=>exact absurd rfl a5
        | cons a r=>rfl
       generalize x[0]'bo=q0 at *;clear P af ai X a9 a5 b4 Z;go_wp2_with fail;refine(JR wr.heap.size _ R q0 _ V (L.o.below U.o) U.o.size).mono ?_;rintro bn w5⟨v5,a6,rfl,a2,a1,W,b1,a0⟩;have T:=(e.o.below.trans (U.o.mono e.o.below.size)).trans (a0.mono (ς e.o.below.size U.o.size));go_wp2;go_roundw;case rel =>
        refine⟨k+1,n,C,V,Λ,rfl,rfl,T,⟨a6,FP a2, ?_,V, ?_⟩, ?_,V,V, ?_⟩
        .rw[bl.o,a1,S.o,Hh.o]
        .intro s hs;rcases W s hs with bm|bm
         .exact G.o s bm
         .rw[bm];exact b2
        .rw[bl.o];exact e.o.hsum
        .rw[bl.o];exact e.o.hsome
       case measure=>simp[intOf];omega
   .have aq:((f.toNat:Int)==109&&Thk.begins c.p.data.toList path.data.toList&&!(c.p.toList==path.toList))=false:=by rw[q3];simp
    have bl:J<|jA es f (ay path) (d.take (k+1))=⟨lZ (jA es f (ay path) (d.take k)).l (ay c.v),(jA es f (ay path) (d.take k)).sum+c.n,true⟩:=by rw[toList_eq,toList_eq]at q3;unfold J;rw[F.o];unfold qJ;rw[show(ay c.p==ay path)=true from q3,ύ Ω,ώ rfl]
    obtain⟨R,q,bp,ak,u⟩:=e.o.own;have L:=ω q;have S:J<|_:=bp;have G:J<|_:=u;clear q bp u F v aq;have H:J<|ϒ wr (wr.alloc (.cells #[.string c.p,.int .u8 (c.a.toNat:Int),.string c.v,I c.n,.slice A Q y] 124)):=(φ _ _).alloc (χ _) _;generalize Thk.begins c.p.data.toList path.data.toList=bg;cases bg<;>cases q1:((f.toNat:Int)==109)
    all_goals
     go_wp2_with fail;refine(JR wr.heap.size _ R c.v _ V (L.o.below H.o) H.o.size).mono ?_;rintro bn w5⟨v5,a6,rfl,a2,a1,W,b1,a0⟩;have T:=a3.o.trans (a0.mono (ς e.o.below.size H.o.size));have aa:VD w.heap.size w es f (ay path) d (k+1) v5 (n+c.n) true w5:=by
      refine⟨T,⟨a6,FP a2, ?_,V, ?_⟩, ?_,V,V, ?_⟩
      .rw[bl.o,a1,S.o]
      .intro s hs;rcases W s hs with bm|bm
       .exact G.o s bm
       .rw[bm];omega
      .rw[bl.o,e.o.hsum]
      .rw[bl.o]
     have a7:J<|_:=aa;clear a2 a1 W a0 aa T;go_wp2;go_roundw;case rel=>first|exact⟨k+1,n+c.n,true,V,Λ,rfl,rfl,a7.o⟩|((repeat apply Exists.intro);exact⟨⟨k+1,n+c.n,true,V,Λ,rfl,rfl,a7.o⟩,rfl⟩)
     case measure=>simp[intOf];omega
  .have b0:k=d.length:=V
   subst b0;have bl:J<|(jA es f (ay path) (d.take d.length))=jA es f (ay path) d:=ω<|by rw[ϑm]
   by_cases K:(f.toNat:Int)=102
   .have hd:((f.toNat:Int)==102)=true:=by rw[K];(first|done|rfl)
    cases C;all_goals
     go_wp2;go_ret;refine⟨_,rfl, ?_,e.o.below⟩;rw[VF.o];unfold BR;rw[ώ K,<- bl.o,<- e.o.hsome];(first|done|rfl)
   .have hd:((f.toNat:Int)==102)=false:=by simpa using K
    by_cases Y:(f.toNat:Int)=99
    .have hd2:((f.toNat:Int)==99)=true:=by rw[Y];(first|done|rfl)
     go_wp2_with fail;refine(N7 n _ (by have:=e.o.b1;have:=e.o.b2;omega)).mono ?_;rintro bn w3⟨t,rfl,ht,b3,Z⟩;go_wp2;go_ret;refine⟨t,rfl, ?_,e.o.below.trans (Z.mono e.o.below.size)⟩;rw[VF.o,ht];unfold BR;rw[ύ K,ώ Y,<- bl.o,<- e.o.hsum]
    .have hd2:((f.toNat:Int)==99)=false:=by simpa using Y
     obtain⟨R,q,bp,ak,u⟩:=e.o.own;have L:=ω q;have S:J<|_:=bp;have G:J<|_:=u;clear q bp u;go_wp2_with fail;refine(NZ _ _ R _ V G.o L.o).mono ?_;rintro bn w3⟨t,rfl,ht,b3,rfl⟩;go_wp2;go_ret;refine⟨t,rfl, ?_,e.o.below⟩;rw[VF.o,ht];unfold BR;rw[ύ K,ύ Y,<- bl.o,<- S.o];simp
structure aA(M:Nat->Prop)(w w':World):Prop where
 os:w'.os=w.os
 tape:w'.tape=w.tape
 output:w'.output=w.output
 size:w.heap.size<=w'.heap.size
 block:∀k,k<w.heap.size->¬M k->w'.heap[k]?=w.heap[k]?
def aA.refl(M:Nat->Prop)(w:World):aA M w w:=⟨rfl,rfl,rfl,χ _,λ_ _ _=>rfl⟩
def aA.trans{b:World}(h:aA M a b)(k:aA M b c):aA M a c :=
 ⟨k.os.trans h.os,k.tape.trans h.tape,k.output.trans h.output,ς h.size k.size,λi d e=>(k.block i (ο d h.size) e).trans (h.block i d e)⟩
def aA.mono{N:Nat->Prop}{b:World}(h:aA M a b)(d:∀k,k<a.heap.size->M k->N k):aA N a b:=⟨h.os,h.tape,h.output,h.size,λk c f=>h.block k c λe=>f (d k c e)⟩
def aA.of_below{b:World}(h:ϒ a b):aA M a b:=⟨h.os,h.tape,h.output,h.size,λk c _=>h.block k c⟩
def aA.setCell(h:aA M a w){p:Addr}(d:M p.block)(u:Value):aA M a (w.setCell p u) :=
 ⟨h.os,h.tape,h.output,by simpa[World.setCell]using h.size,λk c b=>(Below.heap_setCell w p u k (λe=>b (by rw[e];exact d))).trans (h.block k c b)⟩
def aA.below{b:World}(h:aA M a b)(d:ϒ b c):aA M a c:=h.trans (aA.of_below d)
def aA.grown{b:World}{row:Option Nat}(h:aA M a b)(d:b.grownBy c row)(j:∀k,row=some k->M k\/a.heap.size<=k):aA M a c :=
 ⟨d.os.trans h.os,d.tape.trans h.tape,d.output.trans h.output,ς h.size d.size,λk f g=>(d.block k (ο f h.size) (λi=>by rcases j k i.symm with e|e;exact g e;omega)).trans (h.block k f g)⟩
def Tagged(w:World)(b:Nat)(t:TypeId):Prop:=∃cur,w.heap[b]?=some (.cells cur t (0,0))
def Tagged.lt(h:Tagged w b t):b<w.heap.size:=by
 obtain⟨c,h⟩:=h;rcases Nat.lt_or_ge b w.heap.size with a|a
 .exact a
 .rw[Array.getElem?_eq_none a]at h;cases h
def Tagged.ne{c:Nat}{s:TypeId}(h:Tagged w b s)(k:Tagged w c t)(a:s≠t):b≠c:=by rintro rfl;obtain⟨x,h⟩:=h;obtain⟨y,k⟩:=k;rw[h]at k;cases k;exact a rfl
def Tagged.aJ(h:Tagged w b t)(c:aA M w w')(d:¬M b):Tagged w' b t:=by obtain⟨x,a⟩:=h;exact⟨x,(c.block b (Tagged.lt ⟨x,a⟩) d).trans a⟩
def Tagged.frozen(h:Tagged w b t)(j:Nat):w.frozen? (O b j)=false:=by obtain⟨x,a⟩:=h;simp[World.frozen?,a]
def Tagged.setCell(h:Tagged w b t)(p:Addr)(u:Value):Tagged (w.setCell p u) b t:=by
 obtain⟨x,a⟩:=h;by_cases e:b=p.block
 .subst e;simp only[Tagged,World.setCell,μ,a];simp
 .exact⟨x,by rw[Below.heap_setCell _ _ _ _ e];exact a⟩
def Tagged.below(h:Tagged w b t)(c:ϒ w w'):Tagged w' b t:=by obtain⟨x,a⟩:=h;exact⟨x,(c.block b (Tagged.lt ⟨x,a⟩)).trans a⟩
def aI(t:TypeId)(w:World)(v:Value)(xs:List Value):Prop :=
 (v=.slice none 0 0/\xs=[]) \/
  ∃b off cap,v=.slice (some (O b off)) xs.length cap/\xs.length<=cap/\Tagged w b t/\∀j(h:j<xs.length),w.cell? (O b (off+j))=some xs[j]
def aI.A8(h:aI t w v xs):eu w.heap.size w v xs:=by
 rcases h with h|⟨b,g,a,c,d,e,f⟩
 .exact τ h
 .exact υ ⟨b,g,a,c,d,e.lt,f⟩
def aI.aJ(h:aI t w v xs)(c:aA M w w')(d:∀b,Tagged w b t->¬M b):aI t w' v xs:=by
 rcases h with h|⟨b,l,e,f,g,a,i⟩
 .exact τ h
 .exact υ ⟨b,l,e,f,g,a.aJ c (d b a),λk j=>(η (w:=w) (c.block b a.lt (d b a))).trans (i k j)⟩
def aI.shape(h:aI t w v xs):∃a cap,v=.slice a xs.length cap/\xs.length<=cap:=by
 rcases h with⟨rfl,rfl⟩|⟨b,g,cap,c,d,e,f⟩
 .exact⟨none,0,rfl,χ _⟩
 .exact⟨_,cap,c,d⟩
def fF{e:TypeId}{n:Nat}(h:w.ownsRow B e 1 v n xs):aI e w v xs:=by
 have d:=h;obtain⟨a,h|⟨g,b,c,rfl,l,f,k,m,o,p⟩⟩:=h
 .exact τ ⟨h.1,ϑr (by rw[a,h.2])⟩
 .refine υ ⟨g,0,b,by rw[a,Nat.mul_one],V,⟨c,f⟩,λj i=>?_⟩;rw[Nat.zero_add,d.cellAt j V,σ i]
def bV{o:Nat}{u:Value}(h:w.cell? (O b o)=some u):(w.setCell (O b o) v).cell? (O b o)=some v:=by apply World.cell?_setCell_same';rw[h];(first|done|rfl)
def aT{o a c:Nat}(h:b≠a\/o≠c):(w.setCell (O b o) v).cell? (O a c)=w.cell? (O a c):=by apply World.cell?_setCell_other;intro e;cases e;rcases h with h|h<;>exact h rfl
def bG{e:TypeId}{n size:Nat}(h:w.ownsRow B e size v n xs)(i:aA M w w')(l:∀g,v.ownBlock=some g->¬M g):w'.ownsRow B e size v n xs:=by
 have d:=h;obtain⟨a,f|⟨g,b,c,rfl,j,k,r⟩⟩:=h
 .exact⟨a,τ f⟩
 .exact⟨a,υ ⟨g,b,c,rfl,j,(i.block g (d.lt g rfl).2 (l g rfl)).trans k,r⟩⟩
def fA(es:List Ev)(jP:List Value):List Value:=(es.zip jP).flatMap λ(e,sv)=>[.string e.p,.int .u8 (e.a.toNat:Int),.string e.v,I e.n,sv]
def ints(l:List Int):List Value:=l.map (Value.int .i64)
def aI.below(h:aI t w v xs)(a:ϒ w w'):aI t w' v xs:=h.aJ (M:=λ_=>False) (aA.of_below a) (λ_ _ h=>h)
end
section
open Go.Proofs.Tryz
structure lH where
 src:Nat
 dst:Nat
 ack:Nat
 known:List Bool
 bytes:ByteArray
def bH(a b:List Bool):List Bool:=(List.range (max a.length b.length)).map λk=>a.getD k false||b.getD k false
def iT{known:List Bool}{j:Nat}(a:known.length<=j):known.getD j false=false:=by rw[ξ,ϑq a];(first|done|rfl)
def fG(a b:List Bool)(i:Nat):(bH a b).getD i false=(a.getD i false||b.getD i false):=by
 unfold bH;by_cases h:i<max a.length b.length
 .rw[ξ,ϑG,List.getElem?_range h];rfl
 .rw[iT Θ,iT (known:=a) V,iT (known:=b) V];(first|done|rfl)
def kT(a b:List Bool):(bH a b).length=max a.length b.length:=by unfold bH;simp
end
namespace Thk
open Go.Proofs.Tryz
def fits(k a:UInt8):Bool :=
 if k.toNat=115 then a.toNat==43||a.toNat==45||a.toNat==33
 else if k.toNat=102 then a.toNat==94||a.toNat==95||a.toNat==33
 else if k.toNat=114 then a.toNat==61||a.toNat==33
 else if k.toNat=99 then a.toNat==62||a.toNat==33
 else a.toNat==33
structure Ch where
 path:Bs
 act:UInt8
 val:Bs
 n:Int
def operand(p:Bs)(a:UInt8)(v:Bs):Nat ⊕ Ch :=
 if a.toNat=43\/a.toNat=45\/a.toNat=61 then(if val v then .inr ⟨p,a,v,0⟩else .inl 5)
 else if a.toNat=62 then(match num v with|some n=>.inr ⟨p,a,v,n⟩|none=>.inl 5)
 else if v=[]then .inr ⟨p,a,v,0⟩else .inl 5
def jf(l:Bs)(k:Nat):Nat ⊕ Ch :=
 if path (l.take k)=false then .inl 4
 else if fits (kindOf (l.take k)) (l.getD k 0)=false then .inl 6
 else operand (l.take k) (l.getD k 0) (l.drop (k+1))
def read(l:Bs):Nat ⊕ Ch:=if l.findIdx eP=l.length then .inl 4 else jf l (l.findIdx eP)
def RX(l:Bs)(h:∀j(c:j<l.length),eP l[j]=false):read l=.inl 4:=by have:l.findIdx eP=l.length:=List.findIdx_eq_length.2 (λx b=>by obtain⟨i,a,rfl⟩:=ϑd b;exact h i a);unfold read;rw[ώ this]
def RY(l:Bs)(k:Nat)(c:k<l.length)(h:∀j(a:j<l.length),j<k->eP l[j]=false)(b:eP l[k]=true):read l=jf l k:=by
 have:l.findIdx eP=k:=by rw[List.findIdx_eq c];exact⟨b,λj a=>h j V a⟩
 unfold read;rw[this,ύ V]
end Thk
namespace Thk
open Go.Proofs.Tryz
def xK(c:UInt8):∀(l a:Bs),((bQ c a l).map List.length).sum+(bQ c a l).length=a.length+l.length+1:=by
 intro l;induction l with
 | nil=>intro a;simp[bQ]
 | cons x r ih =>
  intro a;unfold bQ;split
  .have:=ih [];simp at this⊢;omega
  .have:=ih (a++[x]);simp at this⊢;omega
def ae6(l:List Nat)(b:Nat)(h:∀x∈l,x<=b):l.sum<=b*l.length:=by
 induction l with
 | nil=>simp
 | cons a r ih =>have d:=h a Ω;have e:=ih (λx c=>h x (by simp[c]));simp only[List.sum_cons,δ,Nat.mul_succ];omega
def VH(l:Bs)(h:path l=true):l.length<=17:=by
 unfold path lY at h;simp only[γ,ϑs]at h;have f:=h.1.1;have a:∀x∈(split 47 l).map List.length,x<=5:=by intro x d;obtain⟨y,e,rfl⟩:=ι.1 d;have:=List.all_eq_true.1 h.1.2 y e;unfold seg at this;simp at this;omega
 have c:=ae6 _ 5 a;have b:=xK 47 l [];rw[ϑh]at c;unfold split at *;simp at b;omega
def FU(neg:Bool)(l:Bs)(n:Int)(h:ig neg l=some n):l.length<=10/\n<=1000000000/\-1000000000<=n:=by
 unfold ig at h;by_cases a:lT neg l
 .rw[ώ a]at h;cases h
 .rw[ύ a]at h;unfold lT at a;simp only[ϑw,not_or,ϑs]at a;by_cases b:(l.all dR&&decide (fE l<=1000000000))=true
  .rw[ώ b]at h;simp only[γ,ϑs]at b;cases h
   refine⟨V, ?_, ?_⟩<;>(cases neg<;>simp<;>omega)
  .rw[ύ b]at h;cases h
def ae7(l:Bs)(n:Int)(h:num l=some n):l.length<=11/\n<=1000000000/\-1000000000<=n:=by
 unfold num at h;by_cases a:l.head? = some 45
 .rw[ώ a]at h;have:=FU _ _ _ h;simp at this;omega
 .rw[ύ a]at h;have:=FU _ _ _ h;omega
def xM(l:Bs)(c:Ch)(h:read l=.inr c):c.path.length<=17/\c.val.length<=11/\c.n<=1000000000/\-1000000000<=c.n/\path c.path=true:=by
 unfold read at h;by_cases f:l.findIdx eP=l.length
 .rw[ώ f]at h;cases h
 .rw[ύ f]at h;unfold jf at h;by_cases d:path (l.take (l.findIdx eP))=false
  .rw[ώ d]at h;cases h
  .rw[ύ d]at h;have b:path (l.take (l.findIdx eP))=true:=by simpa using d
   by_cases g:fits (kindOf (l.take (l.findIdx eP))) (l.getD (l.findIdx eP) 0)=false
   .rw[ώ g]at h;cases h
   .rw[ύ g]at h;have e:=VH _ b;generalize l.take (l.findIdx eP)=p at *;generalize l.drop (l.findIdx eP+1)=v at *;generalize l.getD (l.findIdx eP) 0=a at *;unfold operand at h;split at h
    .split at h
     .rename_i hv;cases h
      unfold val at hv;simp at hv;exact⟨e,Θ,Ω,Ω,b⟩
     .cases h
    .split at h
     .split at h
      .rename_i n hn;cases h
       have:=ae7 _ _ hn;exact⟨e,Θ,Θ,Θ,b⟩
      .cases h
     .split at h
      .rename_i hv;cases h
       exact⟨e,by simp[hv],Ω,Ω,b⟩
      .cases h
def JV(l:Bs)(m:Nat)(h:read l=.inl m):0<m/\m<=6:=by
 unfold read jf operand at h
 repeat' split at h
 all_goals first|(cases h;omega)|(cases h;done)
end Thk
section
open Go.Proofs.Tryz Go.RowKit
variable{cs:Array Value}{neg:Bool}{b k:Nat}{t:TypeId}{w w':World}
def wrap_in(n:Int)(a:-9223372036854775808<=n)(b:n<=9223372036854775807):IntKind.i64.wrap n=n:=by unfold IntKind.wrap;simp[IntKind.bits,IntKind.signed];omega
def aC(w:World)(b:Nat)(cs:Array Value)(t:TypeId):Prop:=w.heap[b]?=some (.cells cs t (0,0))
def aC.cell(h:aC w b cs t)(j:Nat):w.cell? (O b j)=cs[j]?:=by simp[World.cell?,show w.heap[b]?=_ from h]
def aC.frozen(h:aC w b cs t)(j:Nat):w.frozen? (O b j)=false:=by simp[World.frozen?,show w.heap[b]?=_ from h]
def aC.lt(h:aC w b cs t):b<w.heap.size:=(Array.getElem?_eq_some_iff.1 h).1
def aC.aJ{M:Nat->Prop}(h:aC w b cs t)(a:aA M w w')(c:¬M b):aC w' b cs t:=(a.block b h.lt c).trans h
def aC.below(h:aC w b cs t)(a:ϒ w w'):aC w' b cs t:=(a.block b h.lt).trans h
def aC.alloc(h:aC w b cs t)(o:Obj):aC (w.alloc o) b cs t:=h.below ((φ _ w).alloc (χ _) o)
def aC.grown(h:aC w b cs t)(a:w.grownBy w' (some k))(c:b≠k):aC w' b cs t:=(a.block b h.lt (λe=>c (by cases e;rfl))).trans h
def aC.new(w:World)(cs:Array Value)(t:TypeId):aC (w.alloc (.cells cs t)) w.heap.size cs t:=heap_alloc_new w _
structure Glob(w:World):Prop where
 len:∃m,w.cell? (z 0)=some (I m)
 syn:∃ev,w.cell? (z 1)=some ev/\(ev=.nilIface\/∃te pe,ev=.iface te pe)
 rng:∃ev,w.cell? (z 2)=some ev/\(ev=.nilIface\/∃te pe,ev=.iface te pe)
 tab:Lib.TabIs prog w "internal/strconv.uint64pow10" .u64 Lib.pow10Tab
 size:3<w.heap.size
def Glob.mono(i:Glob w)(a:ϒ w w'):Glob w':=by obtain⟨⟨m,b⟩,⟨f,c,j⟩,⟨h,d,k⟩,l,e⟩:=i;refine⟨⟨m,(a.cell (p:=(z 0)) (block_lt_of_cell b)).trans b⟩,⟨f,(a.cell (p:=(z 1)) (block_lt_of_cell c)).trans c,j⟩,⟨h,(a.cell (p:=(z 2)) (block_lt_of_cell d)).trans d,k⟩, ?_,ο e a.size⟩;exact var?_below (g:=3) a (by kernel_rfl) e l
def EZ(es:List Ev)(ah:List (List Bool))(i:Int)(path:Thk.Bs):Thk.Bs×Int :=
 if 0<=i/\i<ah.length then(if Thk.path path then(zY es (aH es (ah.getD i.toNat []) es.length) path,0) else([],4)) else([],2)
def dw(known:List Bool)(n:Nat):List Bool:=known++List.replicate (n-known.length) false++[true]
def jD(known:List Bool)(n:Nat)(h:known.length<=n):(dw known n).length=n+1:=by unfold dw;simp;omega
section
variable{es:List Ev}{ah:List (List Bool)}{i:Int}{s:Thk.Bs}
end
def JW{l:List Bool}{r:List Bool}(i:Nat)(h:i<l.length):(l++r).getD i false=l.getD i false:=by rw[ξ,ξ,ε h]
def ru(known:List Bool)(n:Nat)(h:known.length<=n)(i:Nat):(dw known n).getD i false=(known.getD i false||decide (i=n)):=by
 unfold dw;have d:∀j,known.length<=j->known.getD j false=false:=λj c=>by rw[ξ,ϑq c];(first|done|rfl)
 by_cases b:i<known.length
 .rw[ϑl,JW i b];have:¬i=n:=V
  simp[this]
 .rw[d i V];by_cases e:i<n
  .rw[JW i Θ,ξ,ϋ V,List.getElem?_replicate,ώ V];have:¬i=n:=V
   simp[this]
  .by_cases a:i=n
   .subst a;rw[ξ,ϋ Θ];have:i-(known++List.replicate (i-known.length) false).length=0:=Θ
    rw[this];simp
   .rw[ξ,ϑq Θ];simp[a]
def BU(known:List Bool)(n:Nat):cnt (dw known n)=cnt known+1:=by
 unfold cnt dw;rw[ϑH,ϑH,ρ,ρ];have:(List.replicate (n-known.length) false).filter id=[]:=by rw[List.filter_eq_nil_iff];intro a b;simp[List.eq_of_mem_replicate b]
 rw[this];(first|done|rfl)
def kU:∀(l:List Bool)(N:Nat),l.length<=N->((List.range N).filter (λk=>l.getD k false)).length=cnt l
 | [],N,_=>by simp[cnt]
 | b::l,0,h=>by simp at h
 | b::l,N+1,h=>by
  have a:=kU l N (by simpa using h);rw[List.range_succ_eq_map,List.filter_cons,List.filter_map];have e:((λk=>(b::l).getD k false) ∘ Nat.succ)=λk=>l.getD k false:=by funext k;simp
  rw[e];unfold cnt at a⊢;cases b<;>simpa using a
structure St where
 es:List Ev
 kn:List (List Bool)
 fs:List lH
def iF(s:St)(f:Int):Option lH:=if 1<=f/\f<=s.fs.length then s.fs[f.toNat-1]? else none
def fH(s:St)(f:Int):ByteArray×Int :=
 match iF s f with
 | none=>(⟨#[]⟩,9)
 | some g=>(g.bytes,0)
def wG{B:Nat}{S:Nat->Prop}{a c:World}(h:aA S a c)(b:∀k,S k->B<=k)(f:B<=a.heap.size):Below B a c :=
 ⟨h.os,h.tape,h.output,h.size,λk e=>h.block k V (λd=>by have:=b k d;omega)⟩
def uK:∀(a b:List Bool)(N:Nat),(∀i,a.getD i false=true->b.getD i false=true)->a.length<=N->b.length<=N->cnt a<=cnt b/\(¬cnt a<cnt b->∀i,b.getD i false=a.getD i false):=by
 intro a b N h g j;rw[<- kU a N g,<- kU b N j];have m:∀(l:List Nat),(l.filter λk=>a.getD k false).length<=(l.filter λk=>b.getD k false).length/\(¬(l.filter λk=>a.getD k false).length<(l.filter λk=>b.getD k false).length->∀i∈l,b.getD i false=a.getD i false):=by
  intro l;induction l with
  | nil=>simp
  | cons x r ih =>
   obtain⟨n,f⟩:=ih;cases hax:a.getD x false with
   | true =>
    have d:=h x hax;rw[List.filter_cons_of_pos (by simpa using hax),List.filter_cons_of_pos (by simpa using d),δ,δ];refine⟨V,λe i c=>?_⟩;rcases ϑL.1 c with rfl|c
    .rw[hax,d]
    .exact f V i c
   | false =>
    rw[List.filter_cons_of_neg (by rw[hax];simp)];cases d:b.getD x false with
    | true =>rw[List.filter_cons_of_pos (by simpa using d),δ];exact⟨V,λe=>V⟩
    | false =>
     rw[List.filter_cons_of_neg (by rw[d];simp)];refine⟨n,λe i c=>?_⟩;rcases ϑL.1 c with rfl|c
     .rw[hax,d]
     .exact f e i c
 obtain⟨o,p⟩:=m (List.range N);refine⟨o,λe i=>?_⟩;by_cases c:i<N
 .exact p e i (ϑp.2 c)
 .rw[iT V,iT (known:=a) V]
def isRef(t:TypeId):Prop:=t=38\/t=64\/t=124\/t=162\/t=3
def VI:∀n,Thk.wF n=Lib.decDigits n:=by
 intro n;induction n using Nat.strongRecOn with
 | _ n ih =>
  rw[Thk.wF,Lib.decDigits];split
  .rfl
  .rw[ih (n / 10) V]
def JX(n:Int):Thk.digits n=Lib.itoa n:=by
 unfold Thk.digits Lib.itoa;rw[VI];split
 .rfl
 .rw[(V:n.natAbs=n.toNat)]
def rC{t':TypeId}(h:Tagged w k t)(a:Tagged w k t'):t=t':=ϑc λe=>h.ne a e rfl
def kE(t:ByteArray)(k:Nat)(h:k<t.size):(ay t)[k]'(by rw[aB];exact h)=t[k]:=byte_at t k h
def NumEnd(neg:Bool)(t:ByteArray)(e:Ending):Prop:=∃m:Int,e=.returned (.tuple #[I m,.bool (Thk.ig neg (ay t)).isSome])/\∀x,Thk.ig neg (ay t)=some x->m=x
def pK(neg:Bool)(t:ByteArray):Thk.lT neg (ay t)=true↔(t.size<1\/10<t.size\/(∃h:0<t.size,(t[0].toNat:Int)=48/\(1<t.size\/neg=true))):=by
 unfold Thk.lT;by_cases h:0<t.size
 .rw[oP t h,aB];simp only[ϑw,γ,ϑs,ϑt,ϑb];have e:t[0]=48↔(t[0].toNat:Int)=48:=by
   constructor
   .intro h;rw[h];(first|done|rfl)
   .intro h;apply UInt8.toNat_inj.1;have:(48:UInt8).toNat=48:=rfl;omega
  rw[e];constructor
  .rintro((a|b)|c)
   .exact τ a
   .exact υ (τ b)
   .exact υ (υ ⟨h,c⟩)
  .rintro(a|b|⟨_,c⟩)
   .exact τ (τ a)
   .exact τ (υ b)
   .exact υ c
 .rw[aB];constructor
  .intro _;left;omega
  .intro _;have:decide (t.size<1)=true:=by rw[decide_eq_true_iff];omega
   rw[this];(first|done|rfl)
def QE{t:ByteArray}(h:Thk.lT neg (ay t)=true):Thk.ig neg (ay t)=none:=by unfold Thk.ig;rw[h];(first|done|rfl)
def rD{t:ByteArray}(a:k<t.size)(h:¬(48<=(t[k].toNat:Int)/\(t[k].toNat:Int)<=57)):Thk.ig neg (ay t)=none:=by
 have:(ay t).all Thk.dR=false:=by rw[List.all_eq_false];refine⟨(ay t)[k]'(by rw[aB];exact a),κ _, ?_⟩;rw[kE t k a];unfold Thk.dR;simp;omega
 unfold Thk.ig;rw[this];simp
def Ij{t:ByteArray}(b:Thk.lT neg (ay t)=false)(a:((ay t).take t.size).all Thk.dR=true):Thk.ig neg (ay t)=if Thk.fE ((ay t).take t.size)<=1000000000 then some (if neg then -(Thk.fE ((ay t).take t.size):Int) else(Thk.fE ((ay t).take t.size):Int))else none:=by
 have e:(ay t).take t.size=ay t:=by rw[<- aB t,ϑm]
 rw[e]at a⊢;unfold Thk.ig;rw[b,a];simp
def Ob(s:ByteArray)(w:World)(K:s.size<=1048576)(H:J ((ay s).head?≠some 45)):Calls prog 168 #[.string s] w λB w'=>NumEnd false s B/\w'=w:=by
 have e:∀h:0<s.size,((s[0].toNat:Int)==45)=false:=by intro h;rw[ό];intro C;apply H.o;rw[oP s h];congr 1;apply UInt8.toNat_inj.1;have:(45:UInt8).toNat=45:=rfl;omega
 cases hbad:Thk.lT false (ay s)
 .have n:=(not_congr (pK false s)).1 (by rw[hbad];simp);have t:=ω hbad;clear hbad;have u:0<s.size:=V
  have C:s.size<=10:=V
  have v:=e u;have l:¬((s[0].toNat:Int)=48/\1<s.size):=λh=>n (υ (υ ⟨u,h.1,τ h.2⟩));clear e n;by_cases d:(s[0].toNat:Int)=48
  .have D:¬1<s.size:=λh=>l ⟨d,h⟩;have y:((s[0].toNat:Int)==48)=true:=by rw[d];(first|done|rfl)
   clear l d;go_enter func168,ntmps168;go_wp2
   go_loop [5,6] (λr j=>∃k:Nat,k<=s.size/\j=I k/\r=I (Thk.fE ((ay s).take k))/\J (((ay s).take k).all Thk.dR=true)) (λ_ j=>s.size-(intOf j).toNat)
   case atStart=>exact⟨0,V,rfl,by simp[Thk.fE],by simp[J]⟩
   case round =>
    obtain⟨k,G,rfl,rfl,b⟩:=hrel;have A:Thk.fE ((ay s).take k)<10000000000:=by
     have h:=Thk.Ih _ b.o;have:((ay s).take k).length<=10:=by simp[aB];omega
     exact ο h (ς (Nat.pow_le_pow_right V this) Ψ)
    by_cases g:k<s.size
    .by_cases f:48<=(s[k].toNat:Int)/\(s[k].toNat:Int)<=57
     .obtain⟨E,F⟩:=f;have i:(ay s).take (k+1)=(ay s).take k++[s[k]]:=by rw[ν (by rw[aB];exact g),kE s k g]
      have o:J<|(Thk.fE ((ay s).take (k+1)):Int)=10*(Thk.fE ((ay s).take k):Int)+((s[k].toNat:Int)-48):=ω<|by rw[i,Thk.oO];unfold Thk.xE;omega
      have p:J<|((ay s).take (k+1)).all Thk.dR=true:=ω<|by rw[i,List.all_append,b.o];unfold Thk.dR;simp;omega
      clear i b;generalize Thk.fE ((ay s).take k)=m at *;go_wp2;all_goals
       go_round
       case rel=>exact⟨k+1,V,Λ,by rw[o.o],p⟩
       case measure=>simp[intOf];omega
     .have a:J<|Thk.ig false (ay s)=none:=rD g f;rcases(show(s[k].toNat:Int)<48\/57<(s[k].toNat:Int)from by omega)with h|h
      all_goals clear f b
      all_goals
       go_wp2;all_goals
        go_ret2;exact⟨⟨0,by rw[a.o];rfl,by rw[a.o];intro x h;cases h⟩,rfl⟩
    .have q:k=s.size:=V
     subst q;have a:J<|_:=Ij (neg:=false) t.o b.o;clear b;generalize Thk.fE ((ay s).take s.size)=m at *;go_wp2;all_goals
      go_ret2;refine⟨⟨(m:Int), ?_, ?_⟩,rfl⟩
      .rw[a.o];by_cases c:m<=1000000000
       .simp[c]<;>omega
       .simp[c]<;>omega
      .rw[a.o];intro x h;by_cases c:m<=1000000000
       .simp[c]at h;omega
       .simp[c]at h
  .have y:((s[0].toNat:Int)==48)=false:=by simpa using d
   clear l d;go_enter func168,ntmps168;go_wp2
   go_loop [5,6] (λr j=>∃k:Nat,k<=s.size/\j=I k/\r=I (Thk.fE ((ay s).take k))/\J (((ay s).take k).all Thk.dR=true)) (λ_ j=>s.size-(intOf j).toNat)
   case atStart=>exact⟨0,V,rfl,by simp[Thk.fE],by simp[J]⟩
   case round =>
    obtain⟨k,G,rfl,rfl,b⟩:=hrel;have A:Thk.fE ((ay s).take k)<10000000000:=by
     have h:=Thk.Ih _ b.o;have:((ay s).take k).length<=10:=by simp[aB];omega
     exact ο h (ς (Nat.pow_le_pow_right V this) Ψ)
    by_cases g:k<s.size
    .by_cases f:48<=(s[k].toNat:Int)/\(s[k].toNat:Int)<=57
     .obtain⟨E,F⟩:=f;have i:(ay s).take (k+1)=(ay s).take k++[s[k]]:=by rw[ν (by rw[aB];exact g),kE s k g]
      have o:J<|(Thk.fE ((ay s).take (k+1)):Int)=10*(Thk.fE ((ay s).take k):Int)+((s[k].toNat:Int)-48):=ω<|by rw[i,Thk.oO];unfold Thk.xE;omega
      have p:J<|((ay s).take (k+1)).all Thk.dR=true:=ω<|by rw[i,List.all_append,b.o];unfold Thk.dR;simp;omega
      clear i b;generalize Thk.fE ((ay s).take k)=m at *;go_wp2;all_goals
       go_round
       case rel=>exact⟨k+1,V,Λ,by rw[o.o],p⟩
       case measure=>simp[intOf];omega
     .have a:J<|Thk.ig false (ay s)=none:=rD g f;rcases(show(s[k].toNat:Int)<48\/57<(s[k].toNat:Int)from by omega)with h|h
      all_goals clear f b
      all_goals
       go_wp2;all_goals
        go_ret2;exact⟨⟨0,by rw[a.o];rfl,by rw[a.o];intro x h;cases h⟩,rfl⟩
    .have q:k=s.size:=V
     subst q;have a:J<|_:=Ij (neg:=false) t.o b.o;clear b;generalize Thk.fE ((ay s).take s.size)=m at *;go_wp2;all_goals
      go_ret2;refine⟨⟨(m:Int), ?_, ?_⟩,rfl⟩
      .rw[a.o];by_cases c:m<=1000000000
       .simp[c]<;>omega
       .simp[c]<;>omega
      .rw[a.o];intro x h;by_cases c:m<=1000000000
       .simp[c]at h;omega
       .simp[c]at h
 .have n:=(pK false s).1 hbad;have a:=ω<|QE hbad
  clear hbad;rcases n with h|h|⟨h,l,d⟩
  .clear e;go_enter func168,ntmps168;go_wp2;all_goals
    go_ret2;exact⟨⟨0,by rw[a.o];rfl,by rw[a.o];intro x h;cases h⟩,rfl⟩
  .have v:=e V;clear e;go_enter func168,ntmps168;go_wp2;all_goals
    go_ret2;exact⟨⟨0,by rw[a.o];rfl,by rw[a.o];intro x h;cases h⟩,rfl⟩
  .have v:=e h;have y:((s[0].toNat:Int)==48)=true:=by rw[l];(first|done|rfl)
   have D:1<s.size:=by simpa using d
   clear e l d;go_enter func168,ntmps168;go_wp2;all_goals
    go_ret2;exact⟨⟨0,by rw[a.o];rfl,by rw[a.o];intro x h;cases h⟩,rfl⟩
def Oc(s:ByteArray)(w:World)(R:s.size<=1048576)(K:0<s.size)(v:(s[0].toNat:Int)=45):Calls prog 168 #[.string s] w λC w'=>NumEnd true (s.extract 1 s.size) C/\w'=w:=by
 have M:((s[0].toNat:Int)==45)=true:=by rw[v];(first|done|rfl)
 have d:(s.extract 1 s.size).size=s.size-1:=by simp[ϑo]
 clear v;cases hbad:Thk.lT true (ay (s.extract 1 s.size))
 .have e:=(not_congr (pK true (s.extract 1 s.size))).1 (by rw[hbad];simp);have B:=ω hbad;clear hbad;have q:0<(s.extract 1 s.size).size:=V
  have L:(s.extract 1 s.size).size<=10:=V
  have g:(((s.extract 1 s.size)[0].toNat:Int)==48)=false:=by rw[ό];exact λh=>e (υ (υ ⟨q,h,υ rfl⟩))
  have o:1<=s.size-1:=V
  have E:s.size-1<=10:=V
  clear e d;go_enter func168,ntmps168;go_wp2;clear g;generalize ((s.extract 1 s.size)[0]'q).toNat=H at *;generalize u:s.extract 1 s.size=t at *;have p:=ω u;clear u
  go_loop [5,6] (λF n=>∃k:Nat,k<=t.size/\n=I k/\F=I (Thk.fE ((ay t).take k))/\J (((ay t).take k).all Thk.dR=true)) (λ_ n=>t.size-(intOf n).toNat)
  case atStart=>exact⟨0,V,rfl,by simp[Thk.fE],by simp[J]⟩
  case round =>
   obtain⟨k,Q,rfl,rfl,b⟩:=hrel;have G:Thk.fE ((ay t).take k)<10000000000:=by
    have h:=Thk.Ih _ b.o;have:((ay t).take k).length<=10:=by simp[aB];omega
    exact ο h (ς (Nat.pow_le_pow_right V this) Ψ)
   by_cases j:k<t.size
   .by_cases i:48<=(t[k].toNat:Int)/\(t[k].toNat:Int)<=57
    .obtain⟨N,P⟩:=i;have l:(ay t).take (k+1)=(ay t).take k++[t[k]]:=by rw[ν (by rw[aB];exact j),kE t k j]
     have y:J<|(Thk.fE ((ay t).take (k+1)):Int)=10*(Thk.fE ((ay t).take k):Int)+((t[k].toNat:Int)-48):=ω<|by rw[l,Thk.oO];unfold Thk.xE;omega
     have A:J<|((ay t).take (k+1)).all Thk.dR=true:=ω<|by rw[l,List.all_append,b.o];unfold Thk.dR;simp;omega
     clear l b;generalize Thk.fE ((ay t).take k)=m at *;go_wp2;all_goals
      go_round
      case rel=>exact⟨k+1,V,Λ,by rw[y.o],A⟩
      case measure=>simp[intOf];omega
    .have a:J<|Thk.ig true (ay t)=none:=rD j i;rcases(show(t[k].toNat:Int)<48\/57<(t[k].toNat:Int)from by omega)with h|h
     all_goals clear i b
     all_goals
      go_wp2;all_goals
       go_ret2;rw[p.o];exact⟨⟨0,by rw[a.o];rfl,by rw[a.o];intro x h;cases h⟩,rfl⟩
   .have D:k=t.size:=V
    subst D;have a:J<|_:=Ij (neg:=true) B.o b.o;clear b;generalize Thk.fE ((ay t).take t.size)=m at *;go_wp2;all_goals
     go_ret2;rw[p.o];refine⟨⟨-(m:Int), ?_, ?_⟩,rfl⟩
     .rw[a.o];by_cases c:m<=1000000000
      .simp[c]<;>omega
      .simp[c]<;>omega
     .rw[a.o];intro x h;by_cases c:m<=1000000000
      .simp[c]at h;omega
      .simp[c]at h
 .have e:=(pK true (s.extract 1 s.size)).1 hbad;have a:=ω<|QE hbad
  clear hbad;rcases e with h|h|⟨h,f,r⟩
  .have o:s.size-1<1:=V
   clear d h;go_enter func168,ntmps168;go_wp2;all_goals
    go_ret2;exact⟨⟨0,by rw[a.o];rfl,by rw[a.o];intro x h;cases h⟩,rfl⟩
  .have o:10<s.size-1:=V
   clear d h;go_enter func168,ntmps168;go_wp2;all_goals
    go_ret2;exact⟨⟨0,by rw[a.o];rfl,by rw[a.o];intro x h;cases h⟩,rfl⟩
  .have g:(((s.extract 1 s.size)[0].toNat:Int)==48)=true:=by rw[f];(first|done|rfl)
   by_cases E:10<s.size-1
   .clear f r d g;go_enter func168,ntmps168;go_wp2;all_goals
     go_ret2;exact⟨⟨0,by rw[a.o];rfl,by rw[a.o];intro x h;cases h⟩,rfl⟩
   .have o:1<=s.size-1:=V
    clear f r d;go_enter func168,ntmps168;go_wp2;all_goals
     go_ret2;exact⟨⟨0,by rw[a.o];rfl,by rw[a.o];intro x h;cases h⟩,rfl⟩
def RZ(s:ByteArray):((ay s).head?≠some 45/\Thk.num (ay s)=Thk.ig false (ay s))\/(∃h:0<s.size,(s[0].toNat:Int)=45/\Thk.num (ay s)=Thk.ig true (ay (s.extract 1 s.size))):=by
 by_cases h:(ay s).head? = some 45
 .right;have a:0<s.size:=by
   rcases Nat.eq_zero_or_pos s.size with e|e
   .have:ay s=[]:=ϑr (by rw[aB,e]);rw[this]at h;cases h
   .exact e
  refine⟨a, ?_, ?_⟩
  .rw[oP s a]at h;simp only[ϑb]at h;rw[h];(first|done|rfl)
  .unfold Thk.num;rw[ώ h,fU];congr 1;rw[<- aB s,ϑm,List.drop_one]
 .left;exact⟨h,by unfold Thk.num;rw[ύ h]⟩
def Oe(s:ByteArray)(w:World)(a:s.size<=1048576):Calls prog 168 #[.string s] w λe w'=>(∃m:Int,e=.returned (.tuple #[I m,.bool (Thk.num (ay s)).isSome])/\∀x,Thk.num (ay s)=some x->m=x)/\w'=w:=by
 rcases RZ s with⟨h,e⟩|⟨b,h,e⟩
 .rw[e];exact Ob s w a h
 .rw[e];exact Oc s w a b h
def mW(s:ByteArray)(w:World)(q:s.size<=1048576):Calls prog 167 #[.string s] w λe w'=>e=.returned (.bool (Thk.val s.data.toList))/\w'=w:=by
 go_enter func167,ntmps167;go_wp2
 go_loop [3] (λi=>∃k:Nat,k<=s.size/\i=I k/\∀j(h:j<s.data.toList.length),j<k->(Thk.isLow s.data.toList[j]||Thk.dR s.data.toList[j])=true) (λi=>s.size-(intOf i).toNat)
 case atStart=>exact⟨0,V,rfl,λj _ b=>V⟩
 case round =>
  obtain⟨k,p,rfl,f⟩:=hrel;have a:=ω f;clear f;by_cases d:k<s.size
  .by_cases g:(97<=(s[k].toNat:Int)/\(s[k].toNat:Int)<=122)\/(48<=(s[k].toNat:Int)/\(s[k].toNat:Int)<=57)
   .have n:J<|∀j(h:j<s.data.toList.length),j<k+1->(Thk.isLow s.data.toList[j]||Thk.dR s.data.toList[j])=true:=by
     intro j h b;by_cases e:j=k
     .subst e;rw[byte_at s j d];unfold Thk.isLow Thk.dR;simp;omega
     .exact a.o j h V
    clear a;rcases g with⟨l,m⟩|⟨l,m⟩
    all_goals
     go_wp2;all_goals
      go_round
      case rel=>exact⟨k+1,V,Λ,n.o⟩
      case measure=>simp[intOf];omega
   .have c:J<|Thk.val s.data.toList=false:=Thk.Ie _ k (by simpa using d) (by rw[byte_at s k d,Bool.eq_false_iff];unfold Thk.isLow Thk.dR;simp;omega);rcases(show(s[k].toNat:Int)<48\/(57<(s[k].toNat:Int)/\(s[k].toNat:Int)<97)\/122<(s[k].toNat:Int)from by omega)with h|⟨h,o⟩|h
    all_goals clear g
    all_goals
     go_wp2;all_goals
      go_ret;exact⟨bC c.o.symm,rfl⟩
  .have c:J<|Thk.val s.data.toList=(decide (1<=s.size)&&decide (s.size<=8)):=by have h:=Thk.ae4 s.data.toList (λi h=>a.o i h (by simp at h;omega));exact h.trans Ω
   go_wp2;all_goals
    go_ret;refine⟨bC ?_,rfl⟩;rw[c.o,Bool.eq_iff_iff];simp;try omega
def JZ(k a:UInt8):Bool :=
 if k.toNat=115 then a.toNat==43||a.toNat==45||a.toNat==33
 else if k.toNat=102 then a.toNat==94||a.toNat==95||a.toNat==33
 else if k.toNat=114 then a.toNat==61||a.toNat==33
 else if k.toNat=99 then a.toNat==62||a.toNat==33
 else a.toNat==33
def fits_any(k a:UInt8)(w:World):Calls prog 166 #[.int .u8 (k.toNat:Int),.int .u8 (a.toNat:Int)] w λe w'=>e=.returned (.bool (JZ k a))/\w'=w:=by
 go_enter func166,ntmps166;go_wp2;all_goals
  go_ret;refine⟨bC ?_,rfl⟩;unfold JZ;rw[Bool.eq_iff_iff]
  repeat' split
  all_goals simp only[ϑw,ϑt,ό,Bool.true_eq_false,ϑB,true_iff,false_iff,iff_true,iff_false,eq_self]at *
  all_goals omega
