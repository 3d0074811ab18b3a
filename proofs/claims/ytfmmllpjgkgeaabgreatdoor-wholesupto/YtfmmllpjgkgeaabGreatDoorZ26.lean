import Derived.Test.YtfmmllpjgkgeaabGreatDoorZ25
set_option linter.all false
set_option maxHeartbeats 0
set_option maxRecDepth 100000
namespace Go.Proofs.YtfmmllpjgkgeaabGreatDoor
open Go.Proofs.Tryz Go.RowKit Go.Maps Go.WideMaps Go.Shelf
variable{rs:List (Nat×Nat)}{B N cap:Nat}{ao:Option Addr}{co io lo:Option Nat}{v:Value}{w wx:World}
attribute [local go_sem] Oper.semAt_some
def dQ.yG{c:World}{m:Value->Option Value}(h:dQ prog 140 w (.map io) N m)(hF:dV B w c):dQ prog 140 c (.map io) N m:=by
 rcases h with h|⟨b,d,a⟩
 .exact τ h
 .exact υ ⟨b,d,a.block (hF.block b a.lt (λf=>by obtain⟨_,g,i,e⟩:=f;exact a.l7 e))⟩
def Jj{base:Nat}{c:World}{e:TypeId}{size:Nat}{n:Nat}{xs:List Value}(h:w.ownsRow base e size v n xs)(hF:dV B w c)(f:e≠5):c.ownsRow base e size v n xs:=by
 refine bG h hF (λl b g=>?_);obtain⟨_,i,k,a⟩:=g;rcases h.2 with⟨rfl,_⟩|⟨m,cap,j,rfl,_,d,_⟩
 .cases b
 .cases b;rw[d]at a;cases a;exact f rfl
def BD{It:Nat->Option Value}{xs:List jB}(h:dQ prog 140 w v N (im It))(a:ny It xs):xs.length=N:=by obtain⟨g,b,c,d⟩:=Lr h;have e:=a.1.1;have f:=(List.perm_ext_iff_of_nodup e b).2 (λn=>(a.1.2 n).trans (d n).symm);have:=f.length_eq;rw[ϑh,c]at this;exact this
def tV(C:Nat->Option Thk.Ch)(h:∀k c,C k=some c->(lW c).length<=1000):∀a:List jB,((uU C a).flatMap encI).length<=a.length*1006
 | []=>by simp[uU]
 | x::a=>by
  have b:=tV C h a;unfold uU at b⊢;rw[List.map_cons,List.flatMap_cons,ρ,δ];have e:=aO (who x.n);have f:=aO (nth x.n);have d:∀t:Thk.Bs,t.length<=1000->(encI (x.n,t)).length<=1006:=λt i=>by have g:=aO t.length;unfold encI ku;simp only[ρ];omega
  refine ς (Nat.add_le_add (d _ ?_) b) V;cases hc:C x.n with
  | none=>simp
  | some c=>exact h _ _ hc
def Gw{F:Fence}{n:Nat}{P:Program}{s:Code}{Q:Exit->Act->World->Prop}{a:Act}(h:∀K:Act->World->Prop,(∀a w,Q .normal a w->K a w)->s.wpIn F n P (Exit.then K (λ_ _ _=>False)) a w):s.wpIn F n P Q a w:=by
 refine wpIn_mono (h (λa w=>Q .normal a w) (λ_ _ h=>h)) ?_;intro e a w b;cases e with
 | normal=>exact b
 | exit id=>exact False.elim b
 | goto l=>exact False.elim b
 | ret=>exact False.elim b
 | panic c=>exact False.elim b
 | outgrown=>exact False.elim b
structure mD(w:World)(ao:Option Addr)(cap:Nat)(rs:List (Nat×Nat))(io co lo:Option Nat)(N:Nat)(C:Nat->Option Thk.Ch)(wx:World):Prop where
 row:wx.ownsRow w.heap.size 239 3 (.slice ao rs.length cap) rs.length (gI rs)
 st:aC wx (w.heap.size+1) #[.map io,.map co,.map lo] 101
 mp:dQ prog 140 wx (.map io) N (im (aU C))
def mD.yG{C:Nat->Option Thk.Ch}{wy:World}(h:mD w ao cap rs io co lo N C wx)(hF:dV B wx wy):mD w ao cap rs io co lo N C wy :=
 ⟨Jj h.row hF Ψ,hF.blk h.st Ψ,h.mp.yG hF⟩
def mD.aj0{C:Nat->Option Thk.Ch}{wy:World}{b:Nat}(h:mD w ao cap rs io co lo N C wx)(j:aC wx b #[v] 190)(g:aA (λk=>k=b) wx wy):mD w ao cap rs io co lo N C wy:=by
 have l:∀k,(∀a c,wx.heap[k]?≠some (.cells a 190 c))->k≠b:=λk n e=>n _ _ (e▸j);refine⟨bG h.row g (λo m=>?_),h.st.aJ g (l _ (λa c e=>?_)), ?_⟩
 .intro e;exact ownsRow_ne h.row (λa c i=>by rw[show wx.heap[b]?=_ from j]at i;cases i) (e▸m)
 .rw[show wx.heap[w.heap.size+1]?=_ from h.st]at e;cases e
 .rcases h.mp with d|⟨k,d,f⟩
  .exact τ d
  .exact υ ⟨k,d,f.block (g.block k f.lt (l k (λa c e=>f.l7 e)))⟩
def mD.at{C:Nat->Option Thk.Ch}(h:mD w ao cap rs io co lo N C wx)(i:Nat)(j:i<rs.length):∃g,ao=some (z g)/\wx.cell? (O g (i*3))=some (I (who rs[i].1))/\wx.cell? (O g (i*3+1))=some (I (nth rs[i].1))/\wx.cell? (O g (i*3+2))=some (I (rs[i].2)):=by
 have b:=λg(a:(Value.slice ao rs.length cap).ownBlock=some g)=>h.row.cells a;rcases h.row.2 with⟨f,m⟩|⟨g,k,l,f,_⟩
 .omega
 .cases f;have a:=wV rs i j;have c:=b g rfl _ _ a.1;have d:=b g rfl _ _ a.2.1;have e:=b g rfl _ _ a.2.2;rw[QZ]at c d e;exact⟨g,rfl,c,d,e⟩
def zI(l:Thk.Bs)(rs:List (Nat×Nat))(i:Nat)(j:l.length<=100)(k:rs.length<=505):(l++aZ rs.length++(rs.take i).flatMap encR).length<=20000:=by
 have f:=aO rs.length;have b:∀a:List (Nat×Nat),(a.flatMap encR).length<=a.length*6:=by
  intro a;induction a with
  | nil=>simp
  | cons y a ih =>
   rw[List.flatMap_cons,ρ,δ];have c:=aO (who y.1);have d:=aO (nth y.1);have e:=aO y.2;have:(encR y).length<=6:=by unfold encR ku;simp only[ρ];omega
   omega
 have g:=b (rs.take i);have h:(rs.take i).length<=rs.length:=by rw[List.length_take];omega
 simp only[ρ];omega
def bU.shape{l:Thk.Bs}(h:bU B w v l):∃ao n cap,v=.slice ao n cap:=by
 rcases h.2 with⟨a,c⟩|⟨g,cap,b,a,_,_,d,_⟩
 .exact⟨_,_,_,a⟩
 .exact⟨_,_,_,a⟩
def DY(w:World)(hG:Glob w)(B:Nat)(cy:3<B)(v:Value)(l:Thk.Bs)(h:bU B w v l)(hB:B<=w.heap.size)(hl:l.length<=100)(io co lo:Option Nat)(c:Nat->Nat)(L:Nat->Bool)(C:Nat->Option Thk.Ch)(N:Nat)(XB:ni w (.map co) (.map lo) c L)(bp:dQ prog 140 w (.map io) N (im (aU C)))(bw:∀k,C k≠none->okD k)(hN:N<=505)(bu:∀dm:List Nat,dm.Nodup->(∀dg,dg∈dm↔1<=nth dg/\oW c L dg)->dm.length<=505)(bn:∀k c,C k=some c->(c.act=43\/c.act=94\/c.act=61\/c.act=62)/\(-9223372036854775808<=c.n/\c.n<=9223372036854775807)/\c.path.length<=1048576/\(aG c.act ⟨c.val.toArray⟩).size<=1048576/\(lW c).length<=1000):Calls prog 120 #[v,.agg #[.map io,.map co,.map lo]] w λe w'=>∃v' dm rs xs,e=.returned v'/\NR dm/\(∀dg,dg∈dm↔1<=nth dg/\oW c L dg)/\Runs dm dm.length rs/\ny (aU C) xs/\bU B w' v' (l++encS rs (uU C xs))/\dV B w w':=by
 have cw:=hG.size;obtain⟨va,vn,vc,rfl⟩:=h.shape;have HG:J<|∀wx,dV B w wx->Glob wx:=λwx hF=>hG.aJ hF (λk i=>by have:=i.1;omega);obtain⟨w1,ai⟩:∃w1,w1=(w.alloc (.cells #[.slice va vn vc] 190)).alloc (.cells #[.map io,.map co,.map lo] 101):=⟨_,rfl⟩;have an:Below w.heap.size w w1:=by rw[ai];exact((φ _ w).alloc (χ _) _).alloc Ω _
 have kv:aC w1 w.heap.size #[.slice va vn vc] 190:=by rw[ai];exact(aC.new w _ _).alloc _
 have ks:aC w1 (w.heap.size+1) #[.map io,.map co,.map lo] 101:=by have:=aC.new (w.alloc (.cells #[.slice va vn vc] 190)) #[.map io,.map co,.map lo] 101;rw[ϊ]at this;rw[ai];exact this
 have HR:J<|Calls prog 175 #[.agg #[.map io,.map co,.map lo]] w1 λe w'=>∃u dm rs,e=.returned u/\(NR dm/\(∀dg,dg∈dm↔1<=nth dg/\oW c L dg)/\Runs dm dm.length rs)/\w'.ownsRow w.heap.size 239 3 u rs.length (gI rs)/\Gv w w.heap.size B l (λ_=>False) w' (.slice va vn vc)/\aC w' (w.heap.size+1) #[.map io,.map co,.map lo] 101/\dQ prog 140 w' (.map io) N (im (aU C)):=by refine ψ (TP w1 io co lo c L (XB.below an)) ?_;rintro e w'⟨u,dm,rs,rfl,d,q,h3,h4,E⟩;have b6:=an.size;have a4:=an.trans (E.mono b6);exact⟨u,dm,rs,rfl,⟨d,q,h3⟩,own_base h4 b6,⟨kv.below E,own_below h a4,λh=>h,λ_ _ h=>h,dV.of_below a4,λ_ h=>h.elim,χ _⟩,ks.below E,bp.below a4⟩
 have s0:=(ks.cell 0).trans rfl;have s1:=(ks.cell 1).trans rfl;have s2:=(ks.cell 2).trans rfl;have b6:=ks.lt;have lS:=ω bn;have bd:=ω bu;have IY:J<|∀wx,Calls prog 140 #[.agg #[.map io,.map co,.map lo]] wx _:=λwx=>IL wx io co lo;have Cj:=ω bw;have be:=ω ai;clear hG h XB bp bw bu bn an kv ks ai;refine(callsIn_wide (n:=3)).1 ?_;refine callsIn_of_wp_marks func120 rfl trivial ?_ rfl;simp only[ntmps120,List.size_toArray,δ,List.length_nil,Nat.reduceAdd,Nat.reduceSub,Array.replicate_succ,Array.replicate_zero,List.push_toArray,List.append_toArray,List.nil_append,List.cons_append];gi_wp2_with fail;rw[<- be.o];refine⟨trivial,(callsIn_wide.2 HR.o).mono ?_⟩;rintro e w2⟨u5,dm,rs,rfl,ag,ah,af,bq,br⟩;have c2:=ς ag.2.2.len (bd.o dm ag.1.nodup ag.2.1);have b8:J<|Calls prog 174 #[.slice va vn vc,I rs.length] w2 _:=nD B w2 (.slice va vn vc) l rs.length af.row (ς hB af.fr.size) V V;have b0:=(af.bk.cell 0).trans rfl;have f0:=af.bk.frozen;obtain⟨ao,cap,cl,da⟩:∃ao cap,u5=.slice ao rs.length cap/\rs.length<=cap:=by
  rcases ah.2 with⟨d,q⟩|⟨g,cap,a7,d,_,_,h4,_⟩
  .exact⟨none,0,by rw[d,q],V⟩
  .exact⟨_,cap,d,h4⟩
 subst cl;have HS:J<|w2.ownsRow w.heap.size 239 3 (.slice ao rs.length cap) rs.length (gI rs)/\Gv w w.heap.size B l (λ_=>False) w2 (.slice va vn vc)/\aC w2 (w.heap.size+1) #[.map io,.map co,.map lo] 101/\dQ prog 140 w2 (.map io) N (im (aU C)):=⟨ah,af,bq,br⟩;have al:=ω ag;clear ag ah af bq br HR be bd s0 s1 s2;gi_wp2_with fail;refine⟨trivial,(callsIn_wide.2 b8.o).mono ?_⟩;rintro e w3⟨v3,rfl,b5,ap⟩;obtain⟨ct,cv,cu,rfl⟩:=b5.shape;have c7:=HS.o.2.1.put (λ_ h=>h.elim) ap b5;have bi:=ap.yG HS.o.2.1.row;have c3:aC w3 w.heap.size #[.slice va vn vc] 190:=ap.blk HS.o.2.1.row HS.o.2.1.bk Ψ;have b3:=(c3.cell 0).trans rfl;have f3:=c3.frozen;have bb:=ω c7;have ab:aA (λk=>k=w.heap.size) w3 (w3.setCell (z w.heap.size) (.slice ct cv cu)):=(aA.refl (λk=>k=w.heap.size) w3).setCell (p:=(z w.heap.size)) rfl _;have bc:=ω<|(mD.yG ⟨HS.o.1,HS.o.2.2.1,HS.o.2.2.2⟩ bi).aj0 c3 ab
 clear c7 bi c3 ap b5 ab HS b8;gi_wp2_with fail
 gi_loopg [18] rs.length (λg ar wx=>∃dk:Nat,dk+g=rs.length/\ar=I dk/\(∃a n k,Gv w w.heap.size B (l++aZ rs.length++(rs.take dk).flatMap encR) (λ_=>False) wx (.slice a n k))/\mD w ao cap rs io co lo N C wx)
 case atStart=>exact⟨0,V,rfl,⟨_,_,_,by simpa using bb.o⟩,bc.o⟩
 case round =>
  obtain⟨dk,db,rfl,⟨dj,xn,o,dq⟩,a9⟩:=hrel;clear bb bc b3 f3;by_cases b1:dk<rs.length
  .obtain⟨g,cg,bl,bm,aa⟩:=a9.at dk b1;subst cg;have c1:=al.o.2.2.ok _ (κ b1);have bo:J<|(rs.take (dk+1)).flatMap encR=(rs.take dk).flatMap encR++encR rs[dk]:=ω<|by rw[ν b1,List.flatMap_append,List.flatMap_singleton]
   have ae:=ω<|zI l rs dk hl c2
   generalize rs[dk]=x at *;obtain⟨dg,m⟩:=x;simp only at bl bm aa c1;gi_wp2_with fail;have kr:aC (wr.alloc (.cells #[I (who dg),I (nth dg),I m] 239)) wr.heap.size #[I (who dg),I (nth dg),I m] 239:=aC.new wr _ _;have a4:Below wr.heap.size wr (wr.alloc (.cells #[I (who dg),I (nth dg),I m] 239)):=(φ _ wr).alloc (χ _) _;generalize wr.alloc (.cells #[I (who dg),I (nth dg),I m] 239)=X at *;have Y:Gv w w.heap.size B (l++aZ rs.length++(rs.take dk).flatMap encR) (λ_=>False) X (.slice dj xn o):=dq.nS (aA.of_below a4) (λ_ h=>h.elim);have c8:=a9.yG (B:=B) (dV.of_below a4);have e0:=(kr.cell 0).trans rfl;have e1:=(kr.cell 1).trans rfl;have e2:=(kr.cell 2).trans rfl;have e3:=(Y.bk.cell 0).trans rfl;have bh:=ς hB Y.fr.size;obtain⟨di,ac⟩:∃di,di=l++aZ rs.length++(rs.take dk).flatMap encR:=⟨_,rfl⟩;rw[<- ac]at Y ae;have aw:=aO (who dg);have ax:=aO (nth dg);have b2:(di++ku dg).length<=30000:=by have:=ae.o;unfold ku;simp only[ρ];omega
   have HD:J<|∀wx,wx.heap=X.heap->wx.os=X.os->wx.tape=X.tape->wx.output=X.output->Calls prog 176 #[.slice dj xn o,.agg #[I (who dg),I (nth dg)]] wx λe w'=>∃a n k,e=.returned (.slice a n k)/\(bU B w' (.slice a n k) (di++ku dg)/\dZ (.slice dj xn o) X (.slice a n k) w')/\w'.cell? (O wr.heap.size 2)=some (I m)/\w'.cell? (z w.heap.size)=some (.slice dj xn o)/\(∀j,w'.frozen? (O w.heap.size j)=false):=λwx dl P G Q=>by have r:dZ (.slice dj xn o) X (.slice dj xn o) wx:=dZ.heap dl P G Q;refine ψ (Lu B wx (.slice dj xn o) di dg (Y.row.heap dl) (ς bh r.aJ.size) (by have:=ae.o;omega) c1.1.1) ?_;rintro e w'⟨v',rfl,d,q⟩;obtain⟨a,n,k,rfl⟩:=d.shape;have dn:=r.trans q;have cs:=dn.blk Y.row kr Ψ;have H:=dn.blk Y.row Y.bk Ψ;exact⟨a,n,k,rfl,⟨d,dn⟩,(cs.cell 2).trans rfl,(H.cell 0).trans rfl,H.frozen⟩
   have HM:J<|∀wx f a n k,(bU B f (.slice a n k) (di++ku dg)/\dZ (.slice dj xn o) X (.slice a n k) f)->wx.heap=f.heap->wx.os=f.os->wx.tape=f.tape->wx.output=f.output->Calls prog 174 #[.slice a n k,I m] wx λe w'=>∃y dp A,e=.returned (.slice y dp A)/\(bU B w' (.slice y dp A) (di++ku dg++aZ m)/\dZ (.slice dj xn o) X (.slice y dp A) w')/\w'.cell? (z w.heap.size)=some (.slice dj xn o)/\(∀j,w'.frozen? (O w.heap.size j)=false):=λwx f a n k E dl P G Q=>by have r:=E.2.trans (dZ.heap dl P G Q);refine ψ (nD B wx (.slice a n k) (di++ku dg) m (E.1.heap dl) (ς bh r.aJ.size) V V) ?_;rintro e w'⟨v',rfl,d,q⟩;obtain⟨y,dp,A,rfl⟩:=d.shape;have dn:=r.trans q;have H:=dn.blk Y.row Y.bk Ψ;exact⟨y,dp,A,rfl,⟨d,dn⟩,(H.cell 0).trans rfl,H.frozen⟩
   have ad:J<|Gv w w.heap.size B di (λ_=>False) X (.slice dj xn o)/\mD w (some (z g)) cap rs io co lo N C X:=⟨Y,c8⟩;have cc:J<|di++ku dg++aZ m=l++aZ rs.length++(rs.take (dk+1)).flatMap encR:=ω<|by rw[bo.o,ac];unfold encR;simp only[ϑl]
   clear dq a9 Y c8 kr a4 bl bm aa ac ae bo aw ax b2;refine Gw (λK hK=>?_)
   gi_cut [18]from 45 (λar wx=>ar=I dk/\(∃a n k,Gv w w.heap.size B (l++aZ rs.length++(rs.take (dk+1)).flatMap encR) (λ_=>False) wx (.slice a n k))/\mD w (some (z g)) cap rs io co lo N C wx)
   case first =>
    gi_region_with (first|(refine⟨trivial,CallsIn.mono (callsIn_wide.2 (HM.o _ f _ _ _ E rfl rfl rfl rfl)) ?_⟩;rintro e w6⟨a6,n6,k6,rfl,F,g0,g1⟩)|(refine⟨trivial,CallsIn.mono (callsIn_wide.2 (HD.o _ rfl rfl rfl rfl)) ?_⟩;rintro e f⟨a5,n5,k5,rfl,E,f0,f1,f2⟩))
    all_goals
     gi_wp2_with fail
     gi_meet
     refine⟨rfl,⟨a6,n6,k6, ?_⟩, ?_⟩
     .rw[<- cc.o];exact ad.o.1.put (λ_ h=>h.elim) F.2 F.1
     .exact(ad.o.2.yG (F.2.yG ad.o.1.row)).aj0 (F.2.blk ad.o.1.row ad.o.1.bk Ψ) ((aA.refl (λk=>k=w.heap.size) _).setCell (p:=(z w.heap.size)) rfl _)
   case rest =>
    obtain⟨rfl,aj,ak⟩:=hcut;have HC:J<|(∃a n k,Gv w w.heap.size B (l++aZ rs.length++(rs.take (dk+1)).flatMap encR) (λ_=>False) wc (.slice a n k))/\mD w (some (z g)) cap rs io co lo N C wc:=⟨aj,ak⟩;clear aj ak ad HD HM;refine hK _ _ ?_;gi_wp2_with fail
    gi_roundg (rs.length-(dk+1))
    case measure=>omega
    case rel=>exact⟨dk+1,V,Λ,HC.o.1,HC.o.2⟩
  .have e:dk=rs.length:=V
   subst e;rw[ϑm]at dq;have ae:(l++aZ rs.length++rs.flatMap encR).length<=20000:=by have:=zI l rs rs.length hl c2;rwa [ϑm]at this
   obtain⟨di,ac⟩:∃di,di=l++aZ rs.length++rs.flatMap encR:=⟨_,rfl⟩;rw[<- ac]at dq ae;have ca:=ω ac;have e0:=(a9.st.cell 0).trans rfl;have e1:=(a9.st.cell 1).trans rfl;have e2:=(a9.st.cell 2).trans rfl;have e3:=(dq.bk.cell 0).trans rfl;have cd:=ς hB dq.fr.size;have HI:J<|∀wx,wx.heap=wr.heap->wx.os=wr.os->wx.tape=wr.tape->wx.output=wr.output->Calls prog 177 #[.agg #[.map io,.map co,.map lo]] wx λe w'=>e=.returned (I N)/\(bU B w' (.slice dj xn o) di/\dZ (.slice dj xn o) wr (.slice dj xn o) w')/\w'.cell? (z w.heap.size)=some (.slice dj xn o)/\(∀j,w'.frozen? (O w.heap.size j)=false):=λwx dl P G Q=>by have r:dZ (.slice dj xn o) wr (.slice dj xn o) wx:=dZ.heap dl P G Q;refine ψ (PD wx io co lo N (im (aU C)) (a9.mp.yG (r.yG dq.row))) ?_;rintro e w'⟨rfl,hb⟩;have dn:=r.trans (dZ.of_below hb);have H:=dn.blk dq.row dq.bk Ψ;exact⟨rfl,⟨own_below (dq.row.heap dl) hb,dn⟩,(H.cell 0).trans rfl,H.frozen⟩
   have HM:J<|∀wx f,(bU B f (.slice dj xn o) di/\dZ (.slice dj xn o) wr (.slice dj xn o) f)->wx.heap=f.heap->wx.os=f.os->wx.tape=f.tape->wx.output=f.output->Calls prog 174 #[.slice dj xn o,I N] wx λe w'=>∃y dp A,e=.returned (.slice y dp A)/\(bU B w' (.slice y dp A) (di++aZ N)/\dZ (.slice dj xn o) wr (.slice y dp A) w')/\w'.cell? (z w.heap.size)=some (.slice dj xn o)/\(∀j,w'.frozen? (O w.heap.size j)=false):=λwx f E dl P G Q=>by have r:=E.2.trans (dZ.heap dl P G Q);have ah:=E.1.heap dl;refine ψ (nD B wx (.slice dj xn o) di N ah (ς cd r.aJ.size) V V) ?_;rintro e w'⟨v',rfl,d,q⟩;obtain⟨y,dp,A,rfl⟩:=d.shape;have dn:=r.trans q;have H:=dn.blk dq.row dq.bk Ψ;exact⟨y,dp,A,rfl,⟨d,dn⟩,(H.cell 0).trans rfl,H.frozen⟩
   have HW:J<|Gv w w.heap.size B di (λ_=>False) wr (.slice dj xn o)/\mD w ao cap rs io co lo N C wr:=⟨dq,a9⟩;clear dq a9 ac;gi_wp2_with fail;refine Gw (λK hK=>?_)
   gi_cut [18]from 45 (λar wx=>(∃a n k,Gv w w.heap.size B (di++aZ N) (λ_=>False) wx (.slice a n k))/\mD w ao cap rs io co lo N C wx)
   case first =>
    gi_region_with (first|(refine⟨trivial,CallsIn.mono (callsIn_wide.2 (HM.o _ f E rfl rfl rfl rfl)) ?_⟩;rintro e w6⟨a6,n6,k6,rfl,F,g0,g1⟩)|(refine⟨trivial,CallsIn.mono (callsIn_wide.2 (HI.o _ rfl rfl rfl rfl)) ?_⟩;rintro e f⟨rfl,E,f0,f1⟩))
    all_goals
     gi_wp2_with fail
     gi_meet
     refine⟨⟨a6,n6,k6, ?_⟩, ?_⟩
     .exact HW.o.1.put (λ_ h=>h.elim) F.2 F.1
     .exact(HW.o.2.yG (F.2.yG HW.o.1.row)).aj0 (F.2.blk HW.o.1.row HW.o.1.bk Ψ) ((aA.refl (λk=>k=w.heap.size) _).setCell (p:=(z w.heap.size)) rfl _)
   case rest =>
    obtain⟨⟨ya,yn,yc,aj⟩,ak⟩:=hcut;have HC:J<|Gv w w.heap.size B (di++aZ N) (λ_=>False) wc (.slice ya yn yc)/\mD w ao cap rs io co lo N C wc:=⟨aj,ak⟩;clear aj ak HW HI HM e0 e1 e2 e3;refine hK _ _ ?_;have e0:=(HC.o.2.st.cell 0).trans rfl;have e1:=(HC.o.2.st.cell 1).trans rfl;have e2:=(HC.o.2.st.cell 2).trans rfl;gi_wp2_with fail;refine⟨trivial,(callsIn_wide.2 (IY.o _)).mono ?_⟩;rintro e X⟨rfl,rfl⟩;gi_wp2_with fail;have a4:Below wc.heap.size wc (wc.alloc (.cells #[.map io,.map co,.map lo] 101)):=(φ _ wc).alloc (χ _) _;have ks:aC (wc.alloc (.cells #[.map io,.map co,.map lo] 101)) wc.heap.size #[.map io,.map co,.map lo] 101:=aC.new wc _ _;generalize wc.alloc (.cells #[.map io,.map co,.map lo] 101)=f at *;have b7:Gv w w.heap.size B (di++aZ N) (λ_=>False) f (.slice ya yn yc):=HC.o.1.nS (aA.of_below a4) (λ_ h=>h.elim);have Uj:=HC.o.2.mp.below a4;have Aa:=zA f wc.heap.size io co lo (aU C) N ks Uj (λk i=>Cj.o k (dO.1 i)) (λk v h=>lC h);have Je:∀k,io=some k->k<wc.heap.size:=λk i=>by
     rcases HC.o.2.mp with⟨d,_⟩|⟨b,d,q⟩
     .rw[i]at d;cases d
     .rw[i]at d;cases d;exact q.lt
    have c5:=ks.lt;refine iO (gf:=195) (lb:=#[.pointer (some (z wc.heap.size))]) rfl (enters_of func195 (by kernel_rfl) rfl) Aa (dh.refl _ _) (λk i=>by rcases i with rfl|i;exact c5;have:=Je k i;omega) (λ_=>rfl)
     (λT Z W=>∃a n k,Gv w w.heap.size B (di++aZ N++(uU C Z).flatMap encI) T W (.slice a n k)) (λ_ _ _ _=>False)
     (λT T' Z W W' h hc hT=>by obtain⟨a,n,k,h⟩:=h;exact⟨a,n,k,h.nS hc hT⟩) (λ_ _ _ _ _ _ h _ _=>h)
     ⟨_,_,_,by simpa[uU]using b7⟩ ?round ?done ?stop
    case round =>
     rintro lr T Z x W cz hT⟨S,U,dr,hW⟩ KL ⟨ys,c9,bz⟩;have cr:x∈ys:=bz.subset Ω;obtain⟨df,ab,IQ⟩:=oK (c9.2 x cr);obtain⟨bk,bs,bx,c6,ck⟩:=lS.o _ _ ab;have JK:J<|(uU C (Z++[x])).flatMap encI=(uU C Z).flatMap encI++encI (x.n,lW df):=by unfold J uU;simp[ab]
     have dc:Z.length<=505:=by have d:=BD Uj c9;have q:=bz.length_le;rw[ρ]at q;omega
     have cj:(di++aZ N++(uU C Z).flatMap encI).length<=600000:=by have d:=tV C (λk c hc=>(lS.o k c hc).2.2.2.2) Z;have q:=aO N;simp only[ρ];omega
     obtain⟨xn,xp,de,xv,xm⟩:=x;simp only[sK,Value.agg.injEq]at IQ;simp at IQ;obtain⟨rfl,rfl,rfl,rfl⟩:=IQ;simp only at ab JK;have cq:okD xn:=Cj.o xn (by rw[ab];simp);gi_wp2;have dd:wc.heap.size<W.heap.size:=by have:=KL.1;omega
     refine⟨⟨Θ,λk i=>?_⟩, ?_⟩
     .refine(((φ W.heap.size W).alloc (χ _) _).alloc Ω _).block k (i.elim (λh=>?_) (λh=>(hT k h).2));rcases h with rfl|h
      .omega
      .have:=Je k h;omega
     intro W2 aa c4 hE2;have av:∀k,T k->k<W2.heap.size:=λk i=>by rw[c4];have:=(hT k i).2;simp;omega
     have bf:aA T W W2:=(aA.of_below ((((φ W.heap.size W).alloc (χ _) _).alloc Ω _))).trans aa;have M:=hW.nS bf (λk i=>⟨τ i,av k i⟩);have kd:aC W2 W.heap.size #[I (who xn),I (nth xn)] 140:=((aC.new W _ _).alloc _).aJ aa (λi=>by have:=(hT _ i).2;omega);have ke:aC W2 (W.heap.size+1) #[.string ⟨df.path.toArray⟩,.int .u8 (df.act.toNat:Int),.string (aG df.act ⟨df.val.toArray⟩),I df.n] 85:=by have:=aC.new (W.alloc (.cells #[I (who xn),I (nth xn)] 140)) #[.string ⟨df.path.toArray⟩,.int .u8 (df.act.toNat:Int),.string (aG df.act ⟨df.val.toArray⟩),I df.n] 85;rw[ϊ]at this;exact this.aJ aa (λi=>by have:=(hT _ i).2;omega)
     obtain⟨R,b4⟩:∃R,R=di++aZ N++(uU C Z).flatMap encI:=⟨_,rfl⟩;rw[<- b4]at cj M;have bg:=ς hB M.fr.size;have d0:=(kd.cell 0).trans rfl;have d1:=(kd.cell 1).trans rfl;have a0:=(ke.cell 0).trans rfl;have a1:=(ke.cell 1).trans rfl;have a2:=(ke.cell 2).trans rfl;have a3:=(ke.cell 3).trans rfl;have c0:=(M.bk.cell 0).trans rfl;have aw:=aO (who xn);have ax:=aO (nth xn);have b2:(R++ku xn).length<=700000:=by unfold ku;simp only[ρ];omega
     have HD:J<|∀wx,wx.heap=W2.heap->wx.os=W2.os->wx.tape=W2.tape->wx.output=W2.output->Calls prog 176 #[.slice S U dr,.agg #[I (who xn),I (nth xn)]] wx λe w'=>∃a n k,e=.returned (.slice a n k)/\(bU B w' (.slice a n k) (R++ku xn)/\dZ (.slice S U dr) W2 (.slice a n k) w')/\w'.cell? (z (W.heap.size+1))=some (.string ⟨df.path.toArray⟩)/\w'.cell? (O (W.heap.size+1) 1)=some (.int .u8 (df.act.toNat:Int))/\w'.cell? (O (W.heap.size+1) 2)=some (.string (aG df.act ⟨df.val.toArray⟩))/\w'.cell? (O (W.heap.size+1) 3)=some (I df.n):=λwx dl P G Q=>by have r:dZ (.slice S U dr) W2 (.slice S U dr) wx:=dZ.heap dl P G Q;refine ψ (Lu B wx (.slice S U dr) R xn (M.row.heap dl) (ς bg r.aJ.size) V cq.1) ?_;rintro e w'⟨v',rfl,d,q⟩;obtain⟨a,n,k,rfl⟩:=d.shape;have dn:=r.trans q;have aq:=dn.blk M.row ke Ψ;exact⟨a,n,k,rfl,⟨d,dn⟩,(aq.cell 0).trans rfl,(aq.cell 1).trans rfl,(aq.cell 2).trans rfl,(aq.cell 3).trans rfl⟩
     have HX:J<|∀wx f a n k,(bU B f (.slice a n k) (R++ku xn)/\dZ (.slice S U dr) W2 (.slice a n k) f)->wx.heap=f.heap->wx.os=f.os->wx.tape=f.tape->wx.output=f.output->Calls prog 178 #[.agg #[.string ⟨df.path.toArray⟩,.int .u8 (df.act.toNat:Int),.string (aG df.act ⟨df.val.toArray⟩),I df.n]] wx λe w'=>∃s,e=.returned (.string s)/\(ay s=lW df/\bU B w' (.slice a n k) (R++ku xn)/\dZ (.slice S U dr) W2 (.slice a n k) w'):=λwx f a n k E dl P G Q=>by have r:=E.2.trans (dZ.heap dl P G Q);have ce:=HG.o wx (M.fr.trans (r.yG M.row));refine ψ (WS wx ce ⟨df.path.toArray⟩ (aG df.act ⟨df.val.toArray⟩) df.act df.n bk bs (by show df.path.toArray.size<=_;simpa using bx) c6) ?_;rintro e w'⟨sx,rfl,d,hb⟩;exact⟨sx,rfl,d,own_below (E.1.heap dl) hb,r.trans (dZ.of_below hb)⟩
     have HY:J<|∀wx w6 a n k sx,(ay sx=lW df/\bU B w6 (.slice a n k) (R++ku xn)/\dZ (.slice S U dr) W2 (.slice a n k) w6)->wx.heap=w6.heap->wx.os=w6.os->wx.tape=w6.tape->wx.output=w6.output->Calls prog 173 #[.slice a n k,.string sx] wx λe w'=>∃y dp A,e=.returned (.slice y dp A)/\(bU B w' (.slice y dp A) (R++encI (xn,lW df))/\dZ (.slice S U dr) W2 (.slice y dp A) w')/\w'.cell? (z w.heap.size)=some (.slice S U dr)/\(∀j,w'.frozen? (O w.heap.size j)=false):=λwx w6 a n k sx F dl P G Q=>by
      have r:=F.2.2.trans (dZ.heap dl P G Q);have ci:sx.size=(lW df).length:=by rw[<- F.1];unfold ay;simp
      refine ψ (TQ B wx (.slice a n k) (R++ku xn) sx (F.2.1.heap dl) (ς bg r.aJ.size) V V) ?_;rintro e w'⟨v',rfl,d,q⟩;obtain⟨y,dp,A,rfl⟩:=d.shape;have dn:=r.trans q;have H:=dn.blk M.row M.bk Ψ;have he:R++ku xn++aZ sx.size++ay sx=R++encI (xn,lW df):=by unfold encI;rw[ci,F.1];simp only[ϑl]
      rw[he]at d;exact⟨y,dp,A,rfl,⟨d,dn⟩,(H.cell 0).trans rfl,H.frozen⟩
     have HE:J<|∀k,(k=wc.heap.size\/io=some k)->k<W2.heap.size/\k≠w.heap.size/\(Value.slice S U dr).ownBlock≠some k:=λk i=>by
      have ch:k<f.heap.size:=by rcases i with rfl|h;exact c5;have:=Je k h;omega
      have e1:=hE2.2 k i;have bv:∀t,(∀a7 fz,f.heap[k]?≠some (.cells a7 t fz))->∀a7 fz,W2.heap[k]?≠some (.cells a7 t fz):=λt h a7 fz e=>h a7 fz (e1▸e);have bt:∀t,t≠101->∀a7 fz,f.heap[k]?≠some (.cells a7 t fz):=λt G a7 fz e=>by
       rcases i with rfl|h
       .rw[show f.heap[wc.heap.size]?=_ from ks]at e;cases e;exact G rfl
       .rcases Uj with⟨d,_⟩|⟨b,d,q⟩
        .rw[h]at d;cases d
        .rw[h]at d;cases d;exact q.l7 e
      refine⟨ο ch hE2.1,λe=>?_,ownsRow_ne M.row (bv _ (bt _ Ψ))⟩;have:=bv _ (bt 190 Ψ) _ _ (e▸M.bk);exact this
     have ba:=ω M;have cb:J<|R++encI (xn,lW df)=di++aZ N++(uU C (Z++[⟨xn,⟨df.path.toArray⟩,df.act.toNat,aG df.act ⟨df.val.toArray⟩,df.n⟩])).flatMap encI:=ω<|by rw[JK.o,b4];simp only[ϑl]
     have b9:=ω av;clear hW M kd ke bf aa c4 hE2 KL b4 hT bk bs bx c6 ck aw ax b2 Aa b7 Uj av;gi_wp2_with fail
     gi_region_with (first|(refine⟨trivial,CallsIn.inRound lr (CallsIn.mono (callsIn_wide.2 (HY.o _ w7 _ _ _ _ h7 rfl rfl rfl rfl)) ?_)⟩;rintro e w8⟨a8,n8,k8,rfl,h8,g0,g1⟩)|(refine⟨trivial,CallsIn.inRound lr (CallsIn.mono (callsIn_wide.2 (HX.o _ w6 _ _ _ F rfl rfl rfl rfl)) ?_)⟩;rintro e w7⟨s7,rfl,h7⟩)|(refine⟨trivial,CallsIn.inRound lr (CallsIn.mono (callsIn_wide.2 (HD.o _ rfl rfl rfl rfl)) ?_)⟩;rintro e w6⟨a6,n6,k6,rfl,F,f0,f1,f2,f3⟩))
     all_goals
      gi_wp2_with fail;refine⟨⟨a8,n8,k8, ?_⟩, ?_⟩
      .rw[<- cb.o];exact ba.o.put b9.o h8.2 h8.1
      .exact ba.o.keep b9.o HE.o h8.2 h8.1
    case done =>
     rintro D T xs W hD Bv bj⟨S,U,dr,hW⟩ hT cf;have cp:=BD Uj bj;have c0:=(hW.bk.cell 0).trans rfl;have HW:=ω hW;clear hW Aa b7 Uj;gi_wp2_with fail;refine⟨Ω,.inl ⟨_,_,rfl,run_takeDeferred cf, ?_⟩⟩;have az:=HW.o.nS (T':=T) (eF W D (.deferred none) Bv) (λk i=>⟨τ i,by rw[dL];exact(hT k i).2⟩);have he:di++aZ N++(uU C xs).flatMap encI=l++encS rs (uU C xs):=by
      have cn:(uU C xs).length=N:=by unfold uU;rw[ϑh];exact cp
      unfold encS;rw[cn,ca.o];simp only[ϑl]
     rw[he]at az;exact⟨_,results_tmp rfl _ _ _,.slice S U dr,dm,rs,xs,rfl,al.o.1,al.o.2.1,al.o.2.2,bj,az.row,az.fr⟩
    case stop =>rintro D T c Z W _ _ h;exact h.elim
